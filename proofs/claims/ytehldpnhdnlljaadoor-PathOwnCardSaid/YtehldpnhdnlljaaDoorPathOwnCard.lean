/-
  Proved: for any parts the law PathOwn returns true and leaves its arguments as they were: what is written into Join's answer, or appended to Base's, doesn't come to the paths that were handed in.
  Conditions: none on the arguments. The card ties the listed tables to the program's text; the proof reads none of them. The tie speaks of the pruned copy of the project that the seat bears.
-/
import Derived.Test.YtehldpnhdnlljaaDoorCards
import Derived.Test.YtehldpnhdnlljaaDoorTie
import Derived.Test.YtehldpnhdnlljaaDoorPX
import Derived.Test.YtehldpnhdnlljaaDoorPZ
namespace Go.Proofs.YtehldpnhdnlljaaDoor.pathOwn
set_option linter.unusedSimpArgs false
set_option linter.unusedVariables false
open Go.ChangeShapes Go.WideShapes Go.ChangeAt Go.RowKit Go.Joins

set_option maxRecDepth 100000 in
theorem laid_met (os : Os) : laidMet Tryd.prog Rows.pathOwnRow.laid ((Pt.laidWorld os).forCall (fun _ _ => 0) ⟨#[], #[.slice none 0 0, .slice none 0 0], []⟩).memory :=
  laidMet_of_run' 8 (by kernel_rfl) (by kernel_rfl)
set_option maxRecDepth 100000 in
theorem reads (os : Os) {H : Type} (enc : TypeId × Value → H) : ∃ places, DataW.whole enc Tryd.prog ((Pt.laidWorld os).forCall (fun _ _ => 0) ⟨#[], #[.slice none 0 0, .slice none 0 0], []⟩).memory Tryd.f6.params.toList Rows.pathOwnSpec.vars false (#[(.slice none 0 0 : Value), .slice none 0 0] : Array Value).toList 8 =
    some ([.nil, .nil], [], places) :=
  ⟨[], by kernel_rfl⟩

set_option maxRecDepth 100000 in
theorem contract (H : Type) (enc : TypeId × Value → H) (W : World) (base : Nat) (args : Array Value) (ds gs : List (DataW H)) (before : List MemPlace)
    (hval : ∀ (j : Nat) t v, Tryd.f6.params[j]? = some t → args[j]? = some v → Value.okWide Tryd.prog W .any base t v)
    (hW : DataW.Whole enc Tryd.prog Tryd.f6.params.toList Rows.pathOwnSpec.vars false W args.toList ds gs before) (hG : ∃ m, W.cell? ⟨0, 0, none⟩ = some (.int .i64 m)) :
    Calls Tryd.prog 6 args W fun e W' => ∃ v, e = .returned v ∧ Rows.pathOwnSpec.post enc Tryd.prog Tryd.f6 false true false false W args v W' := by
  obtain ⟨m, hm⟩ := hG
  obtain ⟨p, q, hA0, hV, hpq, hfz, hnd⟩ := id hW
  have hA : DataW.TrodAll enc Tryd.prog W 0 (fun _ => true) true Tryd.f6.params.toList args.toList ds p := hA0
  rw [Tryd.params6] at hA hval
  obtain ⟨v0, vs0, d0, ds0, p0, q0, hargs, rfl, rfl, h0, r0⟩ := trodAll_cons hA
  obtain ⟨v1, vs1, d1, ds1, p1, q1, rfl, rfl, rfl, h1, r1⟩ := trodAll_cons r0
  obtain ⟨rfl, rfl, rfl⟩ := trodAll_nil r1
  obtain rfl : args = #[v0, v1] := by cases args; simp_all
  obtain ⟨zs0, hU0, hz0, hl0⟩ := Pt.open_u8p (hval 0 22 v0 rfl rfl) h0
  obtain ⟨zs1, hU1, hz1, hl1⟩ := Pt.open_u8p (hval 1 22 v1 rfl rfl) h1
  refine (Pt.pathown_walk v0 v1 zs0 zs1 hz0 hz1 m W hU0 hU1 hm).mono fun e W' ⟨he, hb⟩ => ?_
  subst he
  exact ⟨_, rfl, law_post Pt.Tryd.laidOutP (by rw [Tryd.params6]; decide +kernel) rfl (by kernel_rfl) Tryd.underlying4 (fun h => by subst h; rfl) hW hb⟩

set_option maxRecDepth 100000 in
theorem lifted (os : Os) (started : os.Started) (H : Type) (enc : TypeId × Value → H) (F : Stop.Interp) :
    ReturnsInHanded {} Tryd.checked os 6 .any ((OpenSpec.ofChange Rows.pathOwnSpec).preRow enc Tryd.prog Tryd.f6 Rows.pathOwnRow.domain false Rows.pathOwnRow.laid) (((OpenSpec.ofChange Rows.pathOwnSpec).at F).post enc Tryd.prog Tryd.f6 false true false false) := by
  obtain ⟨places, hx⟩ := reads os enc
  refine returnsInHanded_of_row (C := Tryd.checked) (s := OpenSpec.ofChange Rows.pathOwnSpec) Pt.Tryd.ownP started (by kernel_rfl) Tryd.func6
    (witness_row_at (enc := enc) (C := Tryd.checked) false (Pt.laidWorld os) #[(.slice none 0 0 : Value), .slice none 0 0] rfl (by kernel_rfl) (by kernel_rfl) (by kernel_rfl)
      (OpenSpec.preRow_of_cond 8 hx (by kernel_rfl) (fun k hk => by cases hk) (by kernel_rfl) (laid_met os))) ?_
  intro W base args ds gs before hval hW _ _ _ _ hSh _
  exact contract H enc W base args ds gs before hval hW (Pt.maxlen_there hSh)

set_option maxRecDepth 100000 in
theorem said : Rows.PathOwnSaid :=
  OpenClaim.holds_of_cond 6 Tryd.f6 rfl rfl rfl rfl rfl rfl rfl ⟨rfl, rfl, rfl, rfl, rfl⟩ rfl rfl rfl rfl rfl (by kernel_rfl) Tryd.func6 (by kernel_rfl)
    (of_decide_eq_true (by kernel_rfl)) (by unfold Func.isWrapper; first | (rw [if_pos (by decide +kernel)]; kernel_rfl) | (rw [if_neg (by decide +kernel)]; exact ⟨rfl, rfl⟩))
    (fun os started H enc _ F => by rw [OpenClaim.pre_eq_preRow]; exact lifted os started H enc F)

set_option maxRecDepth 100000 in
theorem plain (f : FuncId) (fn : Func) (hf : Tryd.pinned.checked.prog.funcNamed "garrison/garrisonlaw11.PathOwn" = some f) (hfn : Tryd.pinned.checked.prog.funcs[f]? = some fn) :
    false = Tryd.pinned.checked.prog.looks [] ∧ ∀ (j : Nat) t, fn.params[j]? = some t → Tryd.pinned.checked.prog.wantsStandIn t = false := by
  obtain rfl : f = 6 := Option.some.inj ((show Tryd.prog.funcNamed "garrison/garrisonlaw11.PathOwn" = some 6 by kernel_rfl).symm.trans hf) |>.symm
  obtain rfl : fn = Tryd.f6 := (Option.some.inj (Tryd.func6.symm.trans hfn)).symm
  refine ⟨by kernel_rfl, fun j t ht => ?_⟩
  rw [Tryd.params6] at ht
  have ht' : t ∈ #[22, 22] := Array.mem_of_getElem? ht
  simp at ht'
  have hall : ∀ t : Nat, t = 22 → Tryd.prog.wantsStandIn t = false := by
    intro t h
    subst h
    kernel_rfl
  exact hall t (by omega)

theorem card : Rows.PathOwnCardSaid :=
  Claim7.holds_tied_plain_at .later [] _ _ _ _ said (fun _ h => by cases h) (by kernel_rfl) (fun _ h => by cases h) pathOwn_row_tie rfl ⟨rfl, rfl⟩ (by kernel_rfl) rfl plain (by kernel_rfl)
end Go.Proofs.YtehldpnhdnlljaaDoor.pathOwn
namespace Go.Proofs.YtehldpnhdnlljaaDoor
theorem pathOwn_card : Rows.PathOwnCardSaid := pathOwn.card
end Go.Proofs.YtehldpnhdnlljaaDoor
