/-
  Proved: for any list of labels, any label and either value of 'joined' the law LabelLists returns true and leaves its arguments as they were: Below and Chain answer as the document's answer does, and a list whose labels have been joined one after another is a chain.
  Conditions: none on the arguments (a list of more than sixty labels is let by, as the law itself says). The card ties the three listed tables of Go's library to the program's text; the proof reads none of them. The tie speaks of the pruned copy of the project that the seat bears.
-/
import Derived.Test.YthifnojdencobaaDoorCards
import Derived.Test.YthifnojdencobaaDoorTie
import Derived.Test.YthifnojdencobaaDoorLaid
import Derived.Test.YthifnojdencobaaDoorW20
import Derived.Lib.SmallJoins
import Derived.Test.YthifnojdencobaaDoorOpen2
namespace Go.Proofs.YthifnojdencobaaDoor.labelLists
open Go.ChangeShapes Go.WideShapes Go.ChangeAt Go.RowKit Go.Joins

theorem laid_met (os : Os) : laidMet Tryd.prog Rows.labelListsRow.laid ((laidWorld os).forCall (fun _ _ => 0) ⟨#[], #[.slice none 0 0, .agg #[.int .u8 0, .int .u16 0], .bool false], []⟩).memory :=
  laidMet_of_run' 8 (by kernel_rfl) (by kernel_rfl)
theorem reads (os : Os) {H : Type} (enc : TypeId × Value → H) : ∃ places, DataW.whole enc Tryd.prog ((laidWorld os).forCall (fun _ _ => 0) ⟨#[], #[.slice none 0 0, .agg #[.int .u8 0, .int .u16 0], .bool false], []⟩).memory Tryd.f7.params.toList Rows.labelListsSpec.vars false (#[(.slice none 0 0 : Value), .agg #[.int .u8 0, .int .u16 0], .bool false]).toList 8 =
    some ([.nil, .agg [.lit (.int .u8 0), .lit (.int .u16 0)], .lit (.bool false)], [], places) :=
  ⟨[], by kernel_rfl⟩

theorem contract (H : Type) (enc : TypeId × Value → H) (W : World) (base : Nat) (args : Array Value) (ds gs : List (DataW H)) (before : List MemPlace)
    (hval : ∀ (j : Nat) t v, Tryd.f7.params[j]? = some t → args[j]? = some v → Value.okWide Tryd.prog W .any base t v)
    (hW : DataW.Whole enc Tryd.prog Tryd.f7.params.toList Rows.labelListsSpec.vars false W args.toList ds gs before) :
    Calls Tryd.prog 7 args W fun e W' => ∃ v, e = .returned v ∧ Rows.labelListsSpec.post enc Tryd.prog Tryd.f7 false true false false W args v W' := by
  obtain ⟨p, q, hA0, hV, hpq, hfz, hnd⟩ := id hW
  have hA : DataW.TrodAll enc Tryd.prog W 0 (fun _ => true) true Tryd.f7.params.toList args.toList ds p := hA0
  rw [Tryd.params7] at hA hval
  obtain ⟨v0, vs0, d0, ds0, p0, q0, hargs, rfl, rfl, h0, r0⟩ := trodAll_cons hA
  obtain ⟨v1, vs1, d1, ds1, p1, q1, rfl, rfl, rfl, h1, r1⟩ := trodAll_cons r0
  obtain ⟨v2, vs2, d2, ds2, p2, q2, rfl, rfl, rfl, h2, r2⟩ := trodAll_cons r1
  obtain ⟨rfl, rfl, rfl⟩ := trodAll_nil r2
  obtain rfl : args = #[v0, v1, v2] := by cases args; simp_all
  obtain ⟨ls0, hls0, hran0, hlv0, hlen0⟩ := open_labs (hval 0 37 v0 rfl rfl) h0
  obtain ⟨c1, k1, y1, z1, m1, rfl, rfl, rfl, hy1, hz1⟩ := open_agg2 Tryd.underlying25 (by kernel_rfl) Tryd.cells25 (hval 1 25 v1 rfl rfl) h1
  obtain ⟨l1, e1, rfl, wl1⟩ := DataW.trod_int Tryd.underlying5 hy1
  obtain ⟨x1, g1, rfl, wx1⟩ := DataW.trod_int Tryd.underlying23 hz1
  simp at e1 g1
  subst e1 g1
  have bl1 := bounds_u8 wl1
  have bx1 := bounds_u16 wx1
  obtain ⟨b2, rfl, rfl, rfl⟩ := open_bool Tryd.underlying4 (hval 2 4 v2 rfl rfl) h2
  refine (lists_walk v0 ls0 l1 x1 b2 W (by omega) hlen0 hran0 hlv0 hls0 (open_nil37 (hval 0 37 v0 rfl rfl) h0)).mono fun e W' ⟨he, hb⟩ => ?_
  subst he
  exact ⟨_, rfl, law_post Tryd.laidOut (by rw [Tryd.params7]; decide +kernel) rfl (by kernel_rfl) Tryd.underlying4 (fun h => by subst h; rfl) hW hb⟩

set_option maxRecDepth 100000 in
theorem lifted (os : Os) (started : os.Started) (H : Type) (enc : TypeId × Value → H) (F : Stop.Interp) :
    ReturnsInHanded {} Tryd.checked os 7 .any ((OpenSpec.ofChange Rows.labelListsSpec).preRow enc Tryd.prog Tryd.f7 Rows.labelListsRow.domain false Rows.labelListsRow.laid) (((OpenSpec.ofChange Rows.labelListsSpec).at F).post enc Tryd.prog Tryd.f7 false true false false) := by
  obtain ⟨places, hx⟩ := reads os enc
  refine returnsInHanded_of_row (C := Tryd.checked) (s := OpenSpec.ofChange Rows.labelListsSpec) Tryd.own started (by kernel_rfl) Tryd.func7
    (witness_row_at (enc := enc) (C := Tryd.checked) false (laidWorld os) #[(.slice none 0 0 : Value), .agg #[.int .u8 0, .int .u16 0], .bool false] rfl (by kernel_rfl) (by kernel_rfl) (by kernel_rfl)
      (OpenSpec.preRow_of_cond 8 hx (by kernel_rfl) (fun k hk => by cases hk) (by kernel_rfl) (laid_met os))) ?_
  intro W base args ds gs before hval hW _ _ _ _ _ _
  exact contract H enc W base args ds gs before hval hW

theorem said : Rows.LabelListsSaid :=
  OpenClaim.holds_of_cond 7 Tryd.f7 rfl rfl rfl rfl rfl rfl rfl ⟨rfl, rfl, rfl, rfl, rfl⟩ rfl rfl rfl rfl rfl (by kernel_rfl) Tryd.func7 (by kernel_rfl)
    (of_decide_eq_true (by kernel_rfl)) (by unfold Func.isWrapper; first | (rw [if_pos (by decide +kernel)]; kernel_rfl) | (rw [if_neg (by decide +kernel)]; exact ⟨rfl, rfl⟩))
    (fun os started H enc _ F => by rw [OpenClaim.pre_eq_preRow]; exact lifted os started H enc F)

theorem plain (f : FuncId) (fn : Func) (hf : Tryd.pinned.checked.prog.funcNamed "garrison/garrisonlaw01.LabelLists" = some f) (hfn : Tryd.pinned.checked.prog.funcs[f]? = some fn) :
    false = Tryd.pinned.checked.prog.looks [] ∧ ∀ (j : Nat) t, fn.params[j]? = some t → Tryd.pinned.checked.prog.wantsStandIn t = false := by
  obtain rfl : f = 7 := Option.some.inj ((show Tryd.prog.funcNamed "garrison/garrisonlaw01.LabelLists" = some 7 by kernel_rfl).symm.trans hf) |>.symm
  obtain rfl : fn = Tryd.f7 := (Option.some.inj (Tryd.func7.symm.trans hfn)).symm
  refine ⟨by kernel_rfl, fun j t ht => ?_⟩
  rw [Tryd.params7] at ht
  have ht' : t ∈ #[37, 25, 4] := Array.mem_of_getElem? ht
  simp at ht'
  have hall : ∀ t : Nat, t = 4 ∨ t = 25 ∨ t = 37 → Tryd.prog.wantsStandIn t = false := by
    intro t h
    rcases h with rfl | rfl | rfl
    all_goals kernel_rfl
  exact hall t (by rcases ht' with h | h | h <;> simp [h])

theorem card : Rows.LabelListsCardSaid :=
  Claim7.holds_tied_plain_at .later [] _ _ _ _ said (fun _ h => by cases h) (by kernel_rfl) (fun _ h => by cases h) labelLists_row_tie rfl ⟨rfl, rfl⟩ (by kernel_rfl) rfl plain (by kernel_rfl)
end Go.Proofs.YthifnojdencobaaDoor.labelLists
namespace Go.Proofs.YthifnojdencobaaDoor
theorem labelLists_card : Rows.LabelListsCardSaid := labelLists.card
end Go.Proofs.YthifnojdencobaaDoor
