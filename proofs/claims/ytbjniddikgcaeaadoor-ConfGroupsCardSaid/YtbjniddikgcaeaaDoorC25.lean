import Derived.Test.YtbjniddikgcaeaaDoorC10
import Derived.Test.YtbjniddikgcaeaaDoorC18
import Derived.Deep.RegionHeld
/- Small sizes of configurations: names, labels. -/
namespace Go.Proofs.YtbjniddikgcaeaaDoor
set_option linter.unusedSimpArgs false
set_option linter.unusedVariables false
open Go.RowKit Go.Maps

theorem wpAnyH_mono {P : Program} {md : Region.Mode} {ops : Array Oper} {Q : Exit → Act → World → Prop} {S S' : World → Prop} (h : ∀ w, S' w → S w) :
    ∀ (fuel : Nat) (listed : Array Bool) (a : Act) (w : World), wpAnyH P md ops Q S' fuel listed a w → wpAnyH P md ops Q S fuel listed a w
  | 0, _, _, _, hh => hh
  | fuel + 1, listed, a, w, hh => ⟨hh.1, fun i hi => wpOp_mono (fun a' w' h' => ⟨h w' h'.1, wpAnyH_mono h fuel _ a' w' h'.2⟩) (hh.2 i hi)⟩

def nmL (i : Nat) : ByteArray := if i = 0 then ⟨#[108, 111, 119]⟩ else if i = 1 then ⟨#[114, 101, 100]⟩ else if i = 2 then ⟨#[98, 108, 117, 101]⟩ else if i = 3 then ⟨#[116, 111, 112]⟩ else ⟨#[104, 105, 103, 104]⟩
def lvL (i : Nat) : Int := if i = 0 then 0 else if i = 1 then 1 else if i = 2 then 1 else if i = 3 then 2 else 9
def csL (i : Nat) : Int := if i = 0 then 0 else if i = 1 then 1 else if i = 2 then 2 else if i = 3 then 3 else 7

theorem lawnames_any (w : World) : Calls Tryd.prog 23 #[] w fun e w' => ∃ A, e = .returned (.slice (some ⟨A, 0, none⟩) 5 5) ∧ w.heap.size ≤ A ∧ A < w'.heap.size ∧ (∀ i, i < 5 → w'.cell? ⟨A, i, none⟩ = some (.string (nmL i))) ∧ Below w.heap.size w w' := by
  go_enter Tryd.func23, Tryd.ntmps23
  go_wp2
  go_ret
  refine ⟨w.heap.size, rfl, Nat.le_refl _, by simp, fun i hi => ?_, (Below.refl _ _).alloc (Nat.le_refl _) _⟩
  match i, hi with
  | 0, _ | 1, _ | 2, _ | 3, _ | 4, _ => simp [World.cell?_alloc_new, nmL]
theorem lawlabels_any (w : World) : Calls Tryd.prog 24 #[] w fun e w' => ∃ A, e = .returned (.slice (some ⟨A, 0, none⟩) 5 5) ∧ w.heap.size ≤ A ∧ A < w'.heap.size ∧ (∀ i, i < 5 → w'.cell? ⟨A, i * 2, none⟩ = some (.int .u8 (lvL i))) ∧ (∀ i, i < 5 → w'.cell? ⟨A, i * 2 + 1, none⟩ = some (.int .u16 (csL i))) ∧ Below w.heap.size w w' := by
  go_enter Tryd.func24, Tryd.ntmps24
  go_wp2
  go_ret
  refine ⟨w.heap.size, rfl, Nat.le_refl _, by simp, fun i hi => ?_, fun i hi => ?_, (Below.refl _ _).alloc (Nat.le_refl _) _⟩
  all_goals
    match i, hi with
    | 0, _ | 1, _ | 2, _ | 3, _ | 4, _ => simp [World.cell?_alloc_new, lvL, csL]

/-- what a size says of one label -/
def sizeRg (many : Nat) (H : Nat → Nat → Int) (i : Nat) : Rg :=
  ⟨nmL i, lvL i, csL i, 8 + H i 0 % 60, 8 + 2 * (H i 1 % 12), 4 + H i 2 % 40, 1 + H i 3 % 6, 2 + H i 4 % 14, if many = 2 then 1 else if many < 4 ∧ 0 < i then (i : Int) else (many : Int) - 1⟩
def sizeR0 (many : Nat) (H : Nat → Nat → Int) : List Rg := (List.range many).map (sizeRg many H)
/-- .. and of all of them -/
def sizeRs (many : Nat) (H : Nat → Nat → Int) : List Rg := if many = 3 then (sizeR0 many H).set 0 { sizeRg many H 0 with cl := 1 } else sizeR0 many H
def sizeMk (many : Nat) (x : Int) : Int × Int := (x % (many : Int), 4 + x / 8 % 4)
def sizeMStep (many : Nat) (a : List (Int × Int) × Nat) (x : Int) : List (Int × Int) × Nat :=
  (if 8 < a.2 ∨ sizeMk many x ∈ a.1 then a.1 else a.1 ++ [sizeMk many x], a.2 + 1)
def sizeMs (many : Nat) (ts : List Int) : List (Int × Int) := (ts.foldl (sizeMStep many) ([], 0)).1
end Go.Proofs.YtbjniddikgcaeaaDoor
