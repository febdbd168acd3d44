import Derived.Test.YtfackmiojbdjhaaDoorRows
import Derived.Test.YtfackmiojbdjhaaDoorPost
import Derived.Deep.DeepHandedRow
import Derived.Lib.LaidTab
/- A world in which the listed tables hold what their initialisers lay: for the witnesses. -/
namespace Go.Proofs.YtfackmiojbdjhaaDoor
set_option linter.unusedSimpArgs false
set_option linter.unusedVariables false
open Go.ChangeShapes Go.WideShapes Go.ChangeAt Go.RowKit

def litV : Lit → Value
  | .int k z => .int k z
  | .string bs => .string ⟨bs.toArray⟩
  | _ => undef
def oneV : DataW Unit → Value
  | .lit l => litV l
  | _ => undef
def rowV : DataW Unit → List Value
  | .agg ds => ds.map oneV
  | _ => []
def gridV : DataW Unit → List Value
  | .agg ds => ds.flatMap rowV
  | _ => []
def putTab (c : Array Value) : Obj → Obj
  | .cells _ t frozen => .cells c t frozen
  | o => o
noncomputable def laidWorld (os : Os) : World :=
  { World.holding Tryd.prog os ⟨#[], #[], []⟩ with heap := (((((((World.holding Tryd.prog os ⟨#[], #[], []⟩).heap.modify 0 (putTab (rowV Rows.laid_garrison_conf_keys).toArray)).modify 2 (putTab (rowV Rows.laid_internal_strconv_uint64pow10).toArray)).modify 3 (putTab (rowV Rows.laid_unicode_utf8_first).toArray)).modify 4 (putTab (gridV Rows.laid_unicode_utf8_acceptRanges).toArray)).modify 5 (putTab (rowV Rows.laid_math_bits_deBruijn32tab).toArray)).modify 6 (putTab (rowV Rows.laid_math_bits_deBruijn64tab).toArray)) }
end Go.Proofs.YtfackmiojbdjhaaDoor
