import Derived.Test.YtbjniddikgcaeaaDoorC22
import Derived.Test.YtbjniddikgcaeaaDoorC13
/- The fixed fact. -/
namespace Go.Proofs.YtbjniddikgcaeaaDoor
set_option linter.unusedSimpArgs false
set_option linter.unusedVariables false
open Go.RowKit Go.Maps

def awText : ByteArray := ⟨#[108, 97, 98, 101, 108, 32, 108, 111, 119, 32, 48, 32, 98, 108, 111, 99, 107, 115, 32, 52, 48, 32, 110, 111, 100, 101, 115, 32, 49, 54, 32, 102, 114, 97, 109, 101, 115, 32, 52, 32, 112, 114, 111, 99, 115, 32, 50, 32, 111, 112, 101, 110, 115, 32, 51, 32, 99, 108, 101, 97, 114, 32, 108, 111, 119, 10]⟩
def lowR : Rg := ⟨⟨#[108, 111, 119]⟩, 0, 0, 40, 16, 4, 2, 3, 0⟩
set_option maxRecDepth 100000 in
theorem aw_lines : linesOf awText = [⟨#[108, 97, 98, 101, 108, 32, 108, 111, 119, 32, 48, 32, 98, 108, 111, 99, 107, 115, 32, 52, 48, 32, 110, 111, 100, 101, 115, 32, 49, 54, 32, 102, 114, 97, 109, 101, 115, 32, 52, 32, 112, 114, 111, 99, 115, 32, 50, 32, 111, 112, 101, 110, 115, 32, 51, 32, 99, 108, 101, 97, 114, 32, 108, 111, 119]⟩, ⟨#[]⟩] := by decide +kernel
set_option maxRecDepth 100000 in
theorem aw_parse : parseE awText = (0, 0) := by decide +kernel
set_option maxRecDepth 100000 in
theorem aw_regs : outRs awText = [lowR] := by kernel_rfl
set_option maxRecDepth 100000 in
theorem aw_marks : outMs awText = [] := by kernel_rfl
end Go.Proofs.YtbjniddikgcaeaaDoor
