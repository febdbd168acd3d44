import Derived.Test.YtbnpgkclnebnmaaGreatRows
import Derived.WalkKit
import Derived.ProofKit
import Derived.OpenShut
import Derived.Carry
import Derived.Deep.DeepHandedRow
import Derived.Lib.SmallJoins
import Derived.Lib.LaidTab
import Derived.Test.YtbnpgkclnebnmaaGreatZ16
import Derived.Test.YtbnpgkclnebnmaaGreatZ20
import Derived.Test.YtbnpgkclnebnmaaGreatZ23
/- What every law of this seat owes behind its walk: of what was there nothing has turned, so each argument reads as it did. -/
/- A bare world for the witnesses; a size as handed in. -/
/- A slice of bytes as handed in. -/

namespace Go.Proofs.YtbnpgkclnebnmaaGreat
open Go.ChangeShapes Go.WideShapes Go.ChangeAt Go.RowKit

theorem trodAll_later {H : Type} {enc : TypeId × Value → H} {P : Program} (hl : laidOutB P = true) {W W' : World} (hb : Below W.heap.size W W') :
    ∀ {ts : List TypeId} {vs : List Value} {ds : List (DataW H)} {ps : List MemPlace}, (∀ t ∈ ts, P.readableRec t = true ∧ t < P.types.size) → (∀ x ∈ ps, x.block < W.heap.size) →
      DataW.TrodAll enc P W 0 (fun _ => true) true ts vs ds ps → DataW.TrodAll enc P W' 0 (fun b => decide (b < W.heap.size)) true ts vs ds ps := by
  intro ts
  induction ts with
  | nil =>
    intro vs ds ps _ _ h
    obtain ⟨rfl, rfl, rfl⟩ := trodAll_nil h
    exact trodAll_mk0
  | cons t r ih =>
    intro vs ds ps ht hp h
    obtain ⟨v0, vs0, d0, ds0, p0, q0, rfl, rfl, rfl, h0, r0⟩ := trodAll_cons h
    exact trodAll_cons_mk (h0.elim fun n hn => Below.trod hl (ht t (List.mem_cons_self ..)).1 (ht t (List.mem_cons_self ..)).2 ⟨n, hn⟩ hb (fun x hx => hp x (List.mem_append_left _ hx)))
      (ih (fun t' h' => ht t' (List.mem_cons_of_mem _ h')) (fun x hx => hp x (List.mem_append_right _ hx)) r0)

theorem law_post {H : Type} {enc : TypeId × Value → H} {P : Program} {f : Func} {s : ChangeSpec} {tb : TypeId} {apart : Bool} {W W' : World} {args : Array Value} {ds gs : List (DataW H)} {before : List MemPlace}
    (hl : laidOutB P = true) (hread : ∀ t ∈ f.params.toList, P.readableRec t = true ∧ t < P.types.size) (hv : s.vars = []) (hres : f.resultTypes = #[tb]) (htb : P.underlying tb = some .bool)
    (hs : gs = [] → s.fn H (ds ++ gs) = { results := [.lit (.bool true)], args := ds })
    (hW : DataW.Whole enc P f.params.toList s.vars apart W args.toList ds gs before) (hb : Below W.heap.size W W') : s.post enc P f apart true false false W args (.bool true) W' := by
  have hlt := hW.lt
  obtain ⟨p, q, hA, hV, hpq, _, _⟩ := id hW
  rw [hv] at hV
  obtain ⟨rfl, rfl⟩ := trodVars_none hV
  subst hpq
  refine ⟨ds, [], p ++ [], [], p, [], hW, ?_, ?_, ?_, hb.frame _, fun h => by cases h⟩
  · rw [hs rfl, hres]
    exact trodAll_cons_mk (shut_bool htb true) trodAll_mk0
  · rw [hs rfl]
    exact trodAll_later hl hb hread (fun x hx => hlt x (by simpa using hx)) hA
  · rw [hs rfl, hv]
    exact rfl
end Go.Proofs.YtbnpgkclnebnmaaGreat

namespace Go.Proofs.YtbnpgkclnebnmaaGreat
set_option linter.unusedSimpArgs false
set_option linter.unusedVariables false
open Go.ChangeShapes Go.WideShapes Go.ChangeAt Go.RowKit Go.Deep

set_option maxRecDepth 100000 in
theorem Tryz.own : ownKnob Tryz.prog.godebug = none := by kernel_rfl
set_option maxRecDepth 100000 in
theorem Tryz.laidOut : laidOutB Tryz.prog = true := by kernel_rfl
set_option maxRecDepth 100000 in
noncomputable def bareWorld (os : Os) : World := World.holding Tryz.prog os ⟨#[], #[], []⟩
end Go.Proofs.YtbnpgkclnebnmaaGreat

namespace Go.Proofs.YtbnpgkclnebnmaaGreat
set_option linter.unusedSimpArgs false
set_option linter.unusedVariables false
open Go.ChangeShapes Go.WideShapes Go.ChangeAt Go.RowKit Go.Deep

set_option maxRecDepth 100000 in
theorem open_u8q {H : Type} {enc : TypeId × Value → H} {W : World} {b0 : Nat} {v : Value} {d : DataW H} {p : List MemPlace} (hv : Value.okWide Tryz.prog W .any b0 24 v)
    (h : DataW.Trod enc Tryz.prog W 0 (fun _ => true) true 24 v d p) : ∃ pa n c s, v = .slice pa n c ∧ B8 W pa n c s ∧ (∀ j, j < n → 0 ≤ s j ∧ s j < 256) ∧ n ≤ maxLen := by
  obtain ⟨a0, len, cap, rfl⟩ := okWide_slice Tryz.underlying24 hv
  obtain ⟨fuel, hf⟩ := h
  rcases open_ints Tryz.underlying24 Tryz.underlying5 Tryz.cells5 hf with ⟨hcs, _⟩ | ⟨a, len', cap', zs, hcs, _, hl, hm, hz, _, hi, hwz⟩
  · simp only [Value.cells, List.cons.injEq, and_true] at hcs
    injection hcs with h1 h2 h3
    subst h1 h2 h3
    exact ⟨none, 0, 0, fun _ => 0, rfl, .inl ⟨rfl, rfl, rfl⟩, fun j hj => absurd hj (Nat.not_lt_zero _), Nat.zero_le _⟩
  · simp only [Value.cells, List.cons.injEq, and_true] at hcs
    injection hcs with h1 h2 h3
    subst h1 h2 h3
    simp only [if_true] at hz
    refine ⟨_, _, _, fun j => zs.getD j 0, rfl, ?_, fun j hj => ?_, by omega⟩
    · rcases Nat.eq_zero_or_pos len with h0 | h0
      · exact .inr (.inl ⟨a, rfl, h0⟩)
      · have e0 := hi 0 (by omega)
        have hsp := World.cell?_spot e0
        have hbl := World.block_lt_of_cell? W _ e0
        obtain ⟨ab, ao, asp⟩ := a
        simp only [Addr.add] at hsp hbl
        subst hsp
        refine .inr (.inr ⟨ab, ao, rfl, hbl, fun i hil => ?_⟩)
        have := hi i (by omega)
        rw [Addr.add_mid] at this; exact this
    · have h1 : j < zs.length := by omega
      have h2 := bounds_u8 (hwz _ (List.getElem_mem h1))
      show 0 ≤ zs.getD j 0 ∧ zs.getD j 0 < 256
      rw [List.getD_eq_getElem?_getD, List.getElem?_eq_getElem h1, Option.getD_some]
      omega
set_option maxRecDepth 100000 in
theorem Tryz.cellsU16 : Tryz.prog.cellsOf 37 = 1 := by kernel_rfl
set_option maxRecDepth 100000 in
theorem open_u16q {H : Type} {enc : TypeId × Value → H} {W : World} {b0 : Nat} {v : Value} {d : DataW H} {p : List MemPlace} (hv : Value.okWide Tryz.prog W .any b0 104 v)
    (h : DataW.Trod enc Tryz.prog W 0 (fun _ => true) true 104 v d p) : ∃ pa n c s, v = .slice pa n c ∧ B16 W pa n c s ∧ (∀ j, j < n → 0 ≤ s j ∧ s j < 65536) ∧ n ≤ maxLen := by
  obtain ⟨a0, len, cap, rfl⟩ := okWide_slice Tryz.underlying104 hv
  obtain ⟨fuel, hf⟩ := h
  rcases open_ints Tryz.underlying104 Tryz.underlying37 Tryz.cellsU16 hf with ⟨hcs, _⟩ | ⟨a, len', cap', zs, hcs, _, hl, hm, hz, _, hi, hwz⟩
  · simp only [Value.cells, List.cons.injEq, and_true] at hcs
    injection hcs with h1 h2 h3
    subst h1 h2 h3
    exact ⟨none, 0, 0, fun _ => 0, rfl, .inl rfl, fun j hj => absurd hj (Nat.not_lt_zero _), Nat.zero_le _⟩
  · simp only [Value.cells, List.cons.injEq, and_true] at hcs
    injection hcs with h1 h2 h3
    subst h1 h2 h3
    simp only [if_true] at hz
    refine ⟨_, _, _, fun j => zs.getD j 0, rfl, ?_, fun j hj => ?_, by omega⟩
    · rcases Nat.eq_zero_or_pos len with h0 | h0
      · exact .inl h0
      · have e0 := hi 0 (by omega)
        have hsp := World.cell?_spot e0
        have hbl := World.block_lt_of_cell? W _ e0
        obtain ⟨ab, ao, asp⟩ := a
        simp only [Addr.add] at hsp hbl
        subst hsp
        refine .inr ⟨ab, ao, rfl, hbl, fun i hil => ?_⟩
        have := hi i (by omega)
        rw [Addr.add_mid] at this; exact this
    · have h1 : j < zs.length := by omega
      have h2 := bounds_u16 (hwz _ (List.getElem_mem h1))
      show 0 ≤ zs.getD j 0 ∧ zs.getD j 0 < 65536
      rw [List.getD_eq_getElem?_getD, List.getElem?_eq_getElem h1, Option.getD_some]
      omega
end Go.Proofs.YtbnpgkclnebnmaaGreat
