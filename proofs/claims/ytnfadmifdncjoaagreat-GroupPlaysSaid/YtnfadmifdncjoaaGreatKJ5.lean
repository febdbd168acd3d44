import Derived.Test.YtnfadmifdncjoaaGreatKM3
import Derived.Test.YtnfadmifdncjoaaGreatKM4
import Derived.Test.YtnfadmifdncjoaaGreatKM5
import Derived.Test.YtnfadmifdncjoaaGreatKJ
/- Configurations: Size.Conf, of any size. -/
namespace Go.Proofs.YtnfadmifdncjoaaGreat.Cf
set_option linter.unusedSimpArgs false
set_option linter.unusedVariables false
open Go.RowKit Go.Maps


theorem sizeregs_any (m : Int) (m0 : 0 ≤ m) (m1 : m < 256) (H : Nat → Nat → Int) (hH : Hok H) (tv : Value) (ts : List Int) (hts : ∀ x ∈ ts, 0 ≤ x ∧ x < 256) (w : World) (htv : U8s w tv ts) (hl : ts.length ≤ maxLen) (M : Nat) (hM : 2 + m.toNat % 4 = M) :
    Calls Tryz.prog 42 #[sizeVal m H tv] w fun e w' => ∃ v1 v2, e = .returned (.tuple #[v1, v2]) ∧ Below w.heap.size w w' ∧ Regs w' v1 (sizeRs M H) ∧ Mks w' v2 (sizeMs M ts) := by
  have h : M = 2 ∨ M = 3 ∨ M = 4 ∨ M = 5 := by omega
  rcases h with rfl | rfl | rfl | rfl
  · exact sizelabs_2 m hM m0 m1 H hH tv ts hts w htv hl
  · exact sizelabs_3 m hM m0 m1 H hH tv ts hts w htv hl
  · exact sizelabs_4 m hM m0 m1 H hH tv ts hts w htv hl
  · exact sizelabs_5 m hM m0 m1 H hH tv ts hts w htv hl
theorem sizeconf_any (m : Int) (m0 : 0 ≤ m) (m1 : m < 256) (H : Nat → Nat → Int) (hH : Hok H) (tv : Value) (ts : List Int) (hts : ∀ x ∈ ts, 0 ≤ x ∧ x < 256) (w : World) (htv : U8s w tv ts) (hl : ts.length ≤ maxLen) (M : Nat) (hM : 2 + m.toNat % 4 = M) :
    Calls Tryz.prog 8 #[sizeVal m H tv] w fun e w' => ∃ n vr vm vg, e = .returned (.pointer (some ⟨n + 3, 0, none⟩)) ∧ w.heap.size ≤ n ∧ Below w.heap.size w w' ∧ CF n w' vr vm vg (sizeRs M H) (sizeMs M ts) :=
  sizeconf_of m m0 m1 H hH tv ts hts w htv hl M hM fun W h => sizeregs_any m m0 m1 H hH tv ts hts W h hl M hM
end Go.Proofs.YtnfadmifdncjoaaGreat.Cf
