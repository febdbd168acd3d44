/-
  Proved: for any number as a level, any list of numbers as categories and any label the law LabelMakes returns true and leaves its arguments as they were: Make, Valid, Cats and Rank answer as the document's answer does.
  Conditions: none on the arguments (a list of more than a hundred numbers is let by, as the law itself says). The card ties the three listed tables of Go's library to the program's text; the proof reads none of them. The tie speaks of the pruned copy of the project that the seat bears.
-/
import Derived.Test.YthifnojdencobaaDoorCards
import Derived.Test.YthifnojdencobaaDoorTie
import Derived.Test.YthifnojdencobaaDoorLaid
import Derived.Test.YthifnojdencobaaDoorW18
import Derived.Lib.SmallJoins
import Derived.Test.YthifnojdencobaaDoorOpen
namespace Go.Proofs.YthifnojdencobaaDoor.labelMakes
open Go.ChangeShapes Go.WideShapes Go.ChangeAt Go.RowKit Go.Joins

theorem laid_met (os : Os) : laidMet Tryd.prog Rows.labelMakesRow.laid ((laidWorld os).forCall (fun _ _ => 0) ⟨#[], #[.int .i64 0, .slice none 0 0, .agg #[.int .u8 0, .int .u16 0]], []⟩).memory :=
  laidMet_of_run' 8 (by kernel_rfl) (by kernel_rfl)
theorem reads (os : Os) {H : Type} (enc : TypeId × Value → H) : ∃ places, DataW.whole enc Tryd.prog ((laidWorld os).forCall (fun _ _ => 0) ⟨#[], #[.int .i64 0, .slice none 0 0, .agg #[.int .u8 0, .int .u16 0]], []⟩).memory Tryd.f3.params.toList Rows.labelMakesSpec.vars false (#[(.int .i64 0 : Value), .slice none 0 0, .agg #[.int .u8 0, .int .u16 0]]).toList 8 =
    some ([.lit (.int .i64 0), .nil, .agg [.lit (.int .u8 0), .lit (.int .u16 0)]], [], places) :=
  ⟨[], by kernel_rfl⟩

theorem contract (H : Type) (enc : TypeId × Value → H) (W : World) (base : Nat) (args : Array Value) (ds gs : List (DataW H)) (before : List MemPlace)
    (hval : ∀ (j : Nat) t v, Tryd.f3.params[j]? = some t → args[j]? = some v → Value.okWide Tryd.prog W .any base t v)
    (hW : DataW.Whole enc Tryd.prog Tryd.f3.params.toList Rows.labelMakesSpec.vars false W args.toList ds gs before) :
    Calls Tryd.prog 3 args W fun e W' => ∃ v, e = .returned v ∧ Rows.labelMakesSpec.post enc Tryd.prog Tryd.f3 false true false false W args v W' := by
  obtain ⟨p, q, hA0, hV, hpq, hfz, hnd⟩ := id hW
  have hA : DataW.TrodAll enc Tryd.prog W 0 (fun _ => true) true Tryd.f3.params.toList args.toList ds p := hA0
  rw [Tryd.params3] at hA hval
  obtain ⟨v0, vs0, d0, ds0, p0, q0, hargs, rfl, rfl, h0, r0⟩ := trodAll_cons hA
  obtain ⟨v1, vs1, d1, ds1, p1, q1, rfl, rfl, rfl, h1, r1⟩ := trodAll_cons r0
  obtain ⟨v2, vs2, d2, ds2, p2, q2, rfl, rfl, rfl, h2, r2⟩ := trodAll_cons r1
  obtain ⟨rfl, rfl, rfl⟩ := trodAll_nil r2
  obtain rfl : args = #[v0, v1, v2] := by cases args; simp_all
  obtain ⟨n0, rfl, rfl, rfl, wn0⟩ := open_int Tryd.underlying3 (hval 0 3 v0 rfl rfl) h0
  have bn0 := bounds_i64 wn0
  obtain ⟨zs1, hzs1, hzr1, hlen1⟩ := open_intv (hval 1 22 v1 rfl rfl) h1
  obtain ⟨c2, k2, y2, z2, m2, rfl, rfl, rfl, hy2, hz2⟩ := open_agg2 Tryd.underlying25 (by kernel_rfl) Tryd.cells25 (hval 2 25 v2 rfl rfl) h2
  obtain ⟨l2, e2, rfl, wl2⟩ := DataW.trod_int Tryd.underlying5 hy2
  obtain ⟨x2, g2, rfl, wx2⟩ := DataW.trod_int Tryd.underlying23 hz2
  simp at e2 g2
  subst e2 g2
  have bl2 := bounds_u8 wl2
  have bx2 := bounds_u16 wx2
  refine (makes_walk n0 v1 zs1 l2 x2 W hzs1 (by omega) (by omega)).mono fun e W' ⟨he, hb⟩ => ?_
  subst he
  exact ⟨_, rfl, law_post Tryd.laidOut (by rw [Tryd.params3]; decide +kernel) rfl (by kernel_rfl) Tryd.underlying4 (fun h => by subst h; rfl) hW hb⟩

set_option maxRecDepth 100000 in
theorem lifted (os : Os) (started : os.Started) (H : Type) (enc : TypeId × Value → H) (F : Stop.Interp) :
    ReturnsInHanded {} Tryd.checked os 3 .any ((OpenSpec.ofChange Rows.labelMakesSpec).preRow enc Tryd.prog Tryd.f3 Rows.labelMakesRow.domain false Rows.labelMakesRow.laid) (((OpenSpec.ofChange Rows.labelMakesSpec).at F).post enc Tryd.prog Tryd.f3 false true false false) := by
  obtain ⟨places, hx⟩ := reads os enc
  refine returnsInHanded_of_row (C := Tryd.checked) (s := OpenSpec.ofChange Rows.labelMakesSpec) Tryd.own started (by kernel_rfl) Tryd.func3
    (witness_row_at (enc := enc) (C := Tryd.checked) false (laidWorld os) #[(.int .i64 0 : Value), .slice none 0 0, .agg #[.int .u8 0, .int .u16 0]] rfl (by kernel_rfl) (by kernel_rfl) (by kernel_rfl)
      (OpenSpec.preRow_of_cond 8 hx (by kernel_rfl) (fun k hk => by cases hk) (by kernel_rfl) (laid_met os))) ?_
  intro W base args ds gs before hval hW _ _ _ _ _ _
  exact contract H enc W base args ds gs before hval hW

theorem said : Rows.LabelMakesSaid :=
  OpenClaim.holds_of_cond 3 Tryd.f3 rfl rfl rfl rfl rfl rfl rfl ⟨rfl, rfl, rfl, rfl, rfl⟩ rfl rfl rfl rfl rfl (by kernel_rfl) Tryd.func3 (by kernel_rfl)
    (of_decide_eq_true (by kernel_rfl)) (by unfold Func.isWrapper; first | (rw [if_pos (by decide +kernel)]; kernel_rfl) | (rw [if_neg (by decide +kernel)]; exact ⟨rfl, rfl⟩))
    (fun os started H enc _ F => by rw [OpenClaim.pre_eq_preRow]; exact lifted os started H enc F)

theorem plain (f : FuncId) (fn : Func) (hf : Tryd.pinned.checked.prog.funcNamed "garrison/garrisonlaw01.LabelMakes" = some f) (hfn : Tryd.pinned.checked.prog.funcs[f]? = some fn) :
    false = Tryd.pinned.checked.prog.looks [] ∧ ∀ (j : Nat) t, fn.params[j]? = some t → Tryd.pinned.checked.prog.wantsStandIn t = false := by
  obtain rfl : f = 3 := Option.some.inj ((show Tryd.prog.funcNamed "garrison/garrisonlaw01.LabelMakes" = some 3 by kernel_rfl).symm.trans hf) |>.symm
  obtain rfl : fn = Tryd.f3 := (Option.some.inj (Tryd.func3.symm.trans hfn)).symm
  refine ⟨by kernel_rfl, fun j t ht => ?_⟩
  rw [Tryd.params3] at ht
  have ht' : t ∈ #[3, 22, 25] := Array.mem_of_getElem? ht
  simp at ht'
  have hall : ∀ t : Nat, t = 3 ∨ t = 22 ∨ t = 25 → Tryd.prog.wantsStandIn t = false := by
    intro t h
    rcases h with rfl | rfl | rfl
    all_goals kernel_rfl
  exact hall t (by omega)

theorem card : Rows.LabelMakesCardSaid :=
  Claim7.holds_tied_plain_at .later [] _ _ _ _ said (fun _ h => by cases h) (by kernel_rfl) (fun _ h => by cases h) labelMakes_row_tie rfl ⟨rfl, rfl⟩ (by kernel_rfl) rfl plain (by kernel_rfl)
end Go.Proofs.YthifnojdencobaaDoor.labelMakes
namespace Go.Proofs.YthifnojdencobaaDoor
theorem labelMakes_card : Rows.LabelMakesCardSaid := labelMakes.card
end Go.Proofs.YthifnojdencobaaDoor
