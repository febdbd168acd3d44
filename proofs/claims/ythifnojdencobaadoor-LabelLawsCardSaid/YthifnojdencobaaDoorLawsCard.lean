/-
  Proved: for any three labels (any levels of a byte, any categories of sixteen bits) the law LabelLaws returns true and leaves its arguments as they were: what is at or below two labels is at or below their greatest below, what is above both is above their least above, at or below goes on, two labels at or below one another are one, and more labels' rank is no less.
  Conditions: none on the arguments. The card ties the three listed tables of Go's library (strconv's powers of ten, math/bits' two tables) to the program's text; the proof reads none of them. The tie speaks of the pruned copy of the project that the seat bears.
-/
import Derived.Test.YthifnojdencobaaDoorCards
import Derived.Test.YthifnojdencobaaDoorTie
import Derived.Test.YthifnojdencobaaDoorLaid
import Derived.Test.YthifnojdencobaaDoorW14
import Derived.Lib.SmallJoins
namespace Go.Proofs.YthifnojdencobaaDoor.labelLaws
open Go.ChangeShapes Go.WideShapes Go.ChangeAt Go.RowKit Go.Joins

theorem laid_met (os : Os) : laidMet Tryd.prog Rows.labelLawsRow.laid ((laidWorld os).forCall (fun _ _ => 0) ⟨#[], #[.agg #[.int .u8 0, .int .u16 0], .agg #[.int .u8 0, .int .u16 0], .agg #[.int .u8 0, .int .u16 0]], []⟩).memory :=
  laidMet_of_run' 8 (by kernel_rfl) (by kernel_rfl)
theorem reads (os : Os) {H : Type} (enc : TypeId × Value → H) : ∃ places, DataW.whole enc Tryd.prog ((laidWorld os).forCall (fun _ _ => 0) ⟨#[], #[.agg #[.int .u8 0, .int .u16 0], .agg #[.int .u8 0, .int .u16 0], .agg #[.int .u8 0, .int .u16 0]], []⟩).memory Tryd.f6.params.toList Rows.labelLawsSpec.vars false #[Value.agg #[.int .u8 0, .int .u16 0], .agg #[.int .u8 0, .int .u16 0], .agg #[.int .u8 0, .int .u16 0]].toList 8 =
    some ([.agg [.lit (.int .u8 0), .lit (.int .u16 0)], .agg [.lit (.int .u8 0), .lit (.int .u16 0)], .agg [.lit (.int .u8 0), .lit (.int .u16 0)]], [], places) :=
  ⟨[], by kernel_rfl⟩

theorem contract (H : Type) (enc : TypeId × Value → H) (W : World) (base : Nat) (args : Array Value) (ds gs : List (DataW H)) (before : List MemPlace)
    (hval : ∀ (j : Nat) t v, Tryd.f6.params[j]? = some t → args[j]? = some v → Value.okWide Tryd.prog W .any base t v)
    (hW : DataW.Whole enc Tryd.prog Tryd.f6.params.toList Rows.labelLawsSpec.vars false W args.toList ds gs before) :
    Calls Tryd.prog 6 args W fun e W' => ∃ v, e = .returned v ∧ Rows.labelLawsSpec.post enc Tryd.prog Tryd.f6 false true false false W args v W' := by
  obtain ⟨p, q, hA0, hV, hpq, hfz, hnd⟩ := id hW
  have hA : DataW.TrodAll enc Tryd.prog W 0 (fun _ => true) true Tryd.f6.params.toList args.toList ds p := hA0
  rw [Tryd.params6] at hA hval
  obtain ⟨v0, vs0, d0, ds0, p0, q0, hargs, rfl, rfl, h0, r0⟩ := trodAll_cons hA
  obtain ⟨v1, vs1, d1, ds1, p1, q1, rfl, rfl, rfl, h1, r1⟩ := trodAll_cons r0
  obtain ⟨v2, vs2, d2, ds2, p2, q2, rfl, rfl, rfl, h2, r2⟩ := trodAll_cons r1
  obtain ⟨rfl, rfl, rfl⟩ := trodAll_nil r2
  obtain rfl : args = #[v0, v1, v2] := by cases args; simp_all
  obtain ⟨c0, c1, y0, y1, m, rfl, rfl, rfl, hy0, hy1⟩ := open_agg2 Tryd.underlying25 (by kernel_rfl) Tryd.cells25 (hval 0 25 v0 rfl rfl) h0
  obtain ⟨la, e0, rfl, wla⟩ := DataW.trod_int Tryd.underlying5 hy0
  obtain ⟨ca, e1, rfl, wca⟩ := DataW.trod_int Tryd.underlying23 hy1
  obtain ⟨c2, c3, y2, y3, m', rfl, rfl, rfl, hy2, hy3⟩ := open_agg2 Tryd.underlying25 (by kernel_rfl) Tryd.cells25 (hval 1 25 v1 rfl rfl) h1
  obtain ⟨lb, e2, rfl, wlb⟩ := DataW.trod_int Tryd.underlying5 hy2
  obtain ⟨cb, e3, rfl, wcb⟩ := DataW.trod_int Tryd.underlying23 hy3
  obtain ⟨c4, c5, y4, y5, m'', rfl, rfl, rfl, hy4, hy5⟩ := open_agg2 Tryd.underlying25 (by kernel_rfl) Tryd.cells25 (hval 2 25 v2 rfl rfl) h2
  obtain ⟨lc, e4, rfl, wlc⟩ := DataW.trod_int Tryd.underlying5 hy4
  obtain ⟨cc, e5, rfl, wcc⟩ := DataW.trod_int Tryd.underlying23 hy5
  simp at e0 e1 e2 e3 e4 e5
  subst e0 e1 e2 e3 e4 e5
  have bla := bounds_u8 wla
  have blb := bounds_u8 wlb
  have bca := bounds_u16 wca
  have bcb := bounds_u16 wcb
  have bcc := bounds_u16 wcc
  refine (laws_walk la ca lb cb lc cc W (by omega) (by omega) (by omega) (by omega) (by omega)).mono fun e W' ⟨he, hb⟩ => ?_
  subst he
  exact ⟨_, rfl, law_post Tryd.laidOut (by rw [Tryd.params6]; decide +kernel) rfl (by kernel_rfl) Tryd.underlying4 (fun h => by subst h; rfl) hW hb⟩

set_option maxRecDepth 100000 in
theorem lifted (os : Os) (started : os.Started) (H : Type) (enc : TypeId × Value → H) (F : Stop.Interp) :
    ReturnsInHanded {} Tryd.checked os 6 .any ((OpenSpec.ofChange Rows.labelLawsSpec).preRow enc Tryd.prog Tryd.f6 Rows.labelLawsRow.domain false Rows.labelLawsRow.laid) (((OpenSpec.ofChange Rows.labelLawsSpec).at F).post enc Tryd.prog Tryd.f6 false true false false) := by
  obtain ⟨places, hx⟩ := reads os enc
  refine returnsInHanded_of_row (C := Tryd.checked) (s := OpenSpec.ofChange Rows.labelLawsSpec) Tryd.own started (by kernel_rfl) Tryd.func6
    (witness_row_at (enc := enc) (C := Tryd.checked) false (laidWorld os) #[.agg #[.int .u8 0, .int .u16 0], .agg #[.int .u8 0, .int .u16 0], .agg #[.int .u8 0, .int .u16 0]] rfl (by kernel_rfl) (by kernel_rfl) (by kernel_rfl)
      (OpenSpec.preRow_of_cond 8 hx (by kernel_rfl) (fun k hk => by cases hk) (by kernel_rfl) (laid_met os))) ?_
  intro W base args ds gs before hval hW _ _ _ hL _ _
  exact contract H enc W base args ds gs before hval hW

theorem said : Rows.LabelLawsSaid :=
  OpenClaim.holds_of_cond 6 Tryd.f6 rfl rfl rfl rfl rfl rfl rfl ⟨rfl, rfl, rfl, rfl, rfl⟩ rfl rfl rfl rfl rfl (by kernel_rfl) Tryd.func6 (by kernel_rfl)
    (of_decide_eq_true (by kernel_rfl)) (by unfold Func.isWrapper; first | (rw [if_pos (by decide +kernel)]; kernel_rfl) | (rw [if_neg (by decide +kernel)]; exact ⟨rfl, rfl⟩))
    (fun os started H enc _ F => by rw [OpenClaim.pre_eq_preRow]; exact lifted os started H enc F)

theorem plain (f : FuncId) (fn : Func) (hf : Tryd.pinned.checked.prog.funcNamed "garrison/garrisonlaw01.LabelLaws" = some f) (hfn : Tryd.pinned.checked.prog.funcs[f]? = some fn) :
    false = Tryd.pinned.checked.prog.looks [] ∧ ∀ (j : Nat) t, fn.params[j]? = some t → Tryd.pinned.checked.prog.wantsStandIn t = false := by
  obtain rfl : f = 6 := Option.some.inj ((show Tryd.prog.funcNamed "garrison/garrisonlaw01.LabelLaws" = some 6 by kernel_rfl).symm.trans hf) |>.symm
  obtain rfl : fn = Tryd.f6 := (Option.some.inj (Tryd.func6.symm.trans hfn)).symm
  refine ⟨by kernel_rfl, fun j t ht => ?_⟩
  rw [Tryd.params6] at ht
  have ht' : t ∈ #[25, 25, 25] := Array.mem_of_getElem? ht
  simp at ht'
  subst ht'
  exact (show Tryd.prog.wantsStandIn 25 = false by kernel_rfl)

theorem card : Rows.LabelLawsCardSaid :=
  Claim7.holds_tied_plain_at .later [] _ _ _ _ said (fun _ h => by cases h) (by kernel_rfl) (fun _ h => by cases h) labelLaws_row_tie rfl ⟨rfl, rfl⟩ (by kernel_rfl) rfl plain (by kernel_rfl)
end Go.Proofs.YthifnojdencobaaDoor.labelLaws
namespace Go.Proofs.YthifnojdencobaaDoor
theorem labelLaws_card : Rows.LabelLawsCardSaid := labelLaws.card
end Go.Proofs.YthifnojdencobaaDoor
