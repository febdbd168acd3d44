import Derived.Test.YtfackmiojbdjhaaDoorC22
import Derived.Test.YtfackmiojbdjhaaDoorC13
/- The fixed fact. -/
/- Awake. -/

namespace Go.Proofs.YtfackmiojbdjhaaDoor
set_option linter.unusedSimpArgs false
set_option linter.unusedVariables false
open Go.RowKit Go.Maps

def awText : ByteArray := ⟨#[108, 97, 98, 101, 108, 32, 108, 111, 119, 32, 48, 32, 98, 108, 111, 99, 107, 115, 32, 52, 48, 32, 110, 111, 100, 101, 115, 32, 49, 54, 32, 102, 114, 97, 109, 101, 115, 32, 52, 32, 112, 114, 111, 99, 115, 32, 50, 32, 111, 112, 101, 110, 115, 32, 51, 32, 99, 108, 101, 97, 114, 32, 108, 111, 119, 10]⟩
def lowR : Rg := ⟨⟨#[108, 111, 119]⟩, 0, 0, 40, 16, 4, 2, 3, 0⟩
set_option maxRecDepth 100000 in
theorem aw_lines : linesOf awText = [⟨#[108, 97, 98, 101, 108, 32, 108, 111, 119, 32, 48, 32, 98, 108, 111, 99, 107, 115, 32, 52, 48, 32, 110, 111, 100, 101, 115, 32, 49, 54, 32, 102, 114, 97, 109, 101, 115, 32, 52, 32, 112, 114, 111, 99, 115, 32, 50, 32, 111, 112, 101, 110, 115, 32, 51, 32, 99, 108, 101, 97, 114, 32, 108, 111, 119]⟩, ⟨#[]⟩] := by decide +kernel
set_option maxRecDepth 100000 in
theorem aw_parse : parseE awText = (0, 0) := by decide +kernel
set_option maxRecDepth 100000 in
theorem aw_regs : outRs awText = [lowR] := by kernel_rfl
set_option maxRecDepth 100000 in
theorem aw_marks : outMs awText = [] := by kernel_rfl
end Go.Proofs.YtfackmiojbdjhaaDoor

namespace Go.Proofs.YtfackmiojbdjhaaDoor
set_option linter.unusedSimpArgs false
set_option linter.unusedVariables false
open Go.RowKit Go.Maps

theorem aw_lay : layF [lowR] = ([⟨32, 1, 8, 41, 40, 16⟩], 81) := by kernel_rfl
theorem aw_small : ∀ r ∈ [lowR], Small r := by
  intro r hr
  obtain rfl := List.mem_singleton.1 hr
  unfold Small lowR
  simp

set_option maxHeartbeats 2000000 in
set_option maxRecDepth 100000 in
theorem awake_any (w : World) (hG : Gl w) : Calls Tryd.prog 7 #[] w fun e w' => e = .returned (.bool true) ∧ Below w.heap.size w w' := by
  have hP := cparse_any awText w (by decide) hG
  have hg := hG.lt
  clear hG
  go_enter Tryd.func7, Tryd.ntmps7
  go_wp2_with fail
  refine hP.mono ?_
  rintro e w1 ⟨hb1, -, hgood⟩
  obtain ⟨n, vr, vm, vg, rfl, hn, hCF⟩ := hgood (by rw [aw_parse])
  rw [aw_regs, aw_marks] at hCF
  have HCF := Lib.hid hCF
  have hgeo := geo_in n vr vm vg [lowR] [] 0 (by decide) w1 hCF
  have htot := fun W (hb : Below w1.heap.size w1 W) => total_any n vr vm vg [lowR] [] aw_small (by decide) (by decide) W (hCF.below hb)
  have e0 : (layF [lowR]).1[0]'(by rw [lay_len]; decide) = ⟨32, 1, 8, 41, 40, 16⟩ := by simp [aw_lay]
  rw [e0] at hgeo
  rw [aw_lay] at htot
  simp only [Ge.val] at hgeo
  have HB1 := Lib.hid hb1
  clear hP hgood hCF hb1 e0
  go_wp2_with fail
  refine hgeo.mono ?_
  rintro e w2 ⟨rfl, hb2⟩
  have HB2 := Lib.hid hb2
  clear hgeo hb2
  go_wp2_with fail
  have hbA := HB2.out.alloc HB2.out.size (.cells #[.int .i64 32, .int .i64 1, .int .i64 8, .int .i64 41, .int .i64 40, .int .i64 16] 69)
  refine (htot _ hbA).mono ?_
  rintro e w3 ⟨rfl, hb3⟩
  have HB3 := Lib.hid (HB1.out.trans ((hbA.trans (hb3.mono hbA.size)).mono HB1.out.size))
  clear htot hbA hb3
  go_wp2
  go_ret
  exact ⟨rfl, HB3.out⟩
end Go.Proofs.YtfackmiojbdjhaaDoor
