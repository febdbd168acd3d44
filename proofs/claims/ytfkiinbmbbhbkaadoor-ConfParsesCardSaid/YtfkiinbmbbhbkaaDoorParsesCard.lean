/-
  Proved: for any text of ASCII, and any lines put together, the law ConfParses returns true and leaves its arguments as they were: Parse tells the error, and the line, that the document's answer tells, hands out nothing beside an error, and what it hands out else is what the text's labels and marks say.
  Conditions: none on the arguments (texts of more than 500 bytes, and such that aren't ASCII, are let by, as the law itself says). The card ties the listed tables to the program's text; the proof reads one of them (the five words that name a label's numbers). The tie speaks of the pruned copy of the project that the seat bears.
-/
import Derived.Test.YtfkiinbmbbhbkaaDoorCards
import Derived.Test.YtfkiinbmbbhbkaaDoorTie
import Derived.Test.YtfkiinbmbbhbkaaDoorLaid
import Derived.Test.YtfkiinbmbbhbkaaDoorCP6
import Derived.ChangeMaps5
import Derived.Lib.AppendIntMem
import Derived.Shelf.Vars
namespace Go.Proofs.YtfkiinbmbbhbkaaDoor.confParses
set_option linter.unusedSimpArgs false
set_option linter.unusedVariables false
open Go.ChangeShapes Go.WideShapes Go.ChangeAt Go.RowKit Go.Joins

theorem laid_met (os : Os) : laidMet Tryd.prog Rows.confParsesRow.laid ((laidWorld os).forCall (fun _ _ => 0) ⟨#[], #[.string ⟨#[]⟩, .slice none 0 0], []⟩).memory :=
  laidMet_of_run' 8 (by kernel_rfl) (by kernel_rfl)
theorem reads (os : Os) {H : Type} (enc : TypeId × Value → H) : ∃ places, DataW.whole enc Tryd.prog ((laidWorld os).forCall (fun _ _ => 0) ⟨#[], #[.string ⟨#[]⟩, .slice none 0 0], []⟩).memory Tryd.f4.params.toList Rows.confParsesSpec.vars false (#[(.string ⟨#[]⟩ : Value), .slice none 0 0]).toList 8 =
    some ([.lit (.string []), .nil], [], places) :=
  ⟨[], by kernel_rfl⟩

set_option maxRecDepth 100000 in
theorem contract (H : Type) (enc : TypeId × Value → H) (W : World) (base : Nat) (args : Array Value) (ds gs : List (DataW H)) (before : List MemPlace)
    (hval : ∀ (j : Nat) t v, Tryd.f4.params[j]? = some t → args[j]? = some v → Value.okWide Tryd.prog W .any base t v)
    (hW : DataW.Whole enc Tryd.prog Tryd.f4.params.toList Rows.confParsesSpec.vars false W args.toList ds gs before) (hG : Gl W) :
    Calls Tryd.prog 4 args W fun e W' => ∃ v, e = .returned v ∧ Rows.confParsesSpec.post enc Tryd.prog Tryd.f4 false true false false W args v W' := by
  obtain ⟨p, q, hA0, hV, hpq, hfz, hnd⟩ := id hW
  have hA : DataW.TrodAll enc Tryd.prog W 0 (fun _ => true) true Tryd.f4.params.toList args.toList ds p := hA0
  rw [Tryd.params4] at hA hval
  obtain ⟨v0, vs0, d0, ds0, p0, q0, hargs, rfl, rfl, h0, r0⟩ := trodAll_cons hA
  obtain ⟨v1, vs1, d1, ds1, p1, q1, rfl, rfl, rfl, h1, r1⟩ := trodAll_cons r0
  obtain ⟨rfl, rfl, rfl⟩ := trodAll_nil r1
  obtain rfl : args = #[v0, v1] := by cases args; simp_all
  obtain ⟨s0, rfl, rfl, rfl, hs0⟩ := Go.ChangeMaps.open_string Tryd.underlying9 (hval 0 9 v0 rfl rfl) h0
  obtain ⟨a0, len, cap, rfl⟩ := okWide_slice Tryd.underlying26 (hval 1 26 v1 rfl rfl)
  obtain ⟨fuel, hf⟩ := h1
  obtain ⟨tv, ts, htv, hU, hr, hln⟩ := open_u8s hf
  obtain rfl : tv = .slice a0 len cap := by
    simp only [Value.cells] at htv
    first | exact (List.singleton_inj.1 htv).symm | (injection htv with h1 _; exact h1.symm) | simpa using htv.symm
  refine (parses_walk _ _ ts hr W hU hln hG).mono fun e W' ⟨he, hb⟩ => ?_
  subst he
  exact ⟨_, rfl, law_post Tryd.laidOut (by rw [Tryd.params4]; decide +kernel) rfl (by kernel_rfl) Tryd.underlying4 (fun h => by subst h; rfl) hW hb⟩

set_option maxRecDepth 100000 in
theorem lifted (os : Os) (started : os.Started) (H : Type) (enc : TypeId × Value → H) (F : Stop.Interp) :
    ReturnsInHanded {} Tryd.checked os 4 .any ((OpenSpec.ofChange Rows.confParsesSpec).preRow enc Tryd.prog Tryd.f4 Rows.confParsesRow.domain false Rows.confParsesRow.laid) (((OpenSpec.ofChange Rows.confParsesSpec).at F).post enc Tryd.prog Tryd.f4 false true false false) := by
  obtain ⟨places, hx⟩ := reads os enc
  refine returnsInHanded_of_row (C := Tryd.checked) (s := OpenSpec.ofChange Rows.confParsesSpec) Tryd.own started (by kernel_rfl) Tryd.func4
    (witness_row_at (enc := enc) (C := Tryd.checked) false (laidWorld os) #[(.string ⟨#[]⟩ : Value), .slice none 0 0] rfl (by kernel_rfl) (by kernel_rfl) (by kernel_rfl)
      (OpenSpec.preRow_of_cond 8 hx (by kernel_rfl) (fun k hk => by cases hk) (by kernel_rfl) (laid_met os))) ?_
  intro W base args ds gs before hval hW _ _ _ hL hSh _
  have hk : laidMet Tryd.prog [("garrison/conf.keys", Rows.laid_garrison_conf_keys)] W := laidMetH.filter (fun x => x.1 == "garrison/conf.keys") hL
  exact contract H enc W base args ds gs before hval hW ⟨keys_laid hk, Go.Proofs.cell_of_shapedOpen_int (zero := #[.int .i64 0]) (t := 3) hSh (of_decide_eq_true (by kernel_rfl)) (by kernel_rfl) rfl (by kernel_rfl) (by kernel_rfl) Tryd.underlying3⟩

theorem said : Rows.ConfParsesSaid :=
  OpenClaim.holds_of_cond 4 Tryd.f4 rfl rfl rfl rfl rfl rfl rfl ⟨rfl, rfl, rfl, rfl, rfl⟩ rfl rfl rfl rfl rfl (by kernel_rfl) Tryd.func4 (by kernel_rfl)
    (of_decide_eq_true (by kernel_rfl)) (by unfold Func.isWrapper; first | (rw [if_pos (by decide +kernel)]; kernel_rfl) | (rw [if_neg (by decide +kernel)]; exact ⟨rfl, rfl⟩))
    (fun os started H enc _ F => by rw [OpenClaim.pre_eq_preRow]; exact lifted os started H enc F)

theorem plain (f : FuncId) (fn : Func) (hf : Tryd.pinned.checked.prog.funcNamed "garrison/garrisonlaw02.ConfParses" = some f) (hfn : Tryd.pinned.checked.prog.funcs[f]? = some fn) :
    false = Tryd.pinned.checked.prog.looks [] ∧ ∀ (j : Nat) t, fn.params[j]? = some t → Tryd.pinned.checked.prog.wantsStandIn t = false := by
  obtain rfl : f = 4 := Option.some.inj ((show Tryd.prog.funcNamed "garrison/garrisonlaw02.ConfParses" = some 4 by kernel_rfl).symm.trans hf) |>.symm
  obtain rfl : fn = Tryd.f4 := (Option.some.inj (Tryd.func4.symm.trans hfn)).symm
  refine ⟨by kernel_rfl, fun j t ht => ?_⟩
  rw [Tryd.params4] at ht
  have ht' : t ∈ #[9, 26] := Array.mem_of_getElem? ht
  simp at ht'
  have hall : ∀ t : Nat, t = 9 ∨ t = 26 → Tryd.prog.wantsStandIn t = false := by
    intro t h
    rcases h with rfl | rfl
    all_goals kernel_rfl
  exact hall t (by omega)

theorem card : Rows.ConfParsesCardSaid :=
  Claim7.holds_tied_plain_at .later [] _ _ _ _ said (fun _ h => by cases h) (by kernel_rfl) (fun _ h => by cases h) confParses_row_tie rfl ⟨rfl, rfl⟩ (by kernel_rfl) rfl plain (by kernel_rfl)
end Go.Proofs.YtfkiinbmbbhbkaaDoor.confParses
namespace Go.Proofs.YtfkiinbmbbhbkaaDoor
theorem confParses_card : Rows.ConfParsesCardSaid := confParses.card
end Go.Proofs.YtfkiinbmbbhbkaaDoor
