import Derived.Test.YtgdapkbenmlabaaDoorPA
import Derived.Lib.OthersKept
import Derived.Test.YtgdapkbenmlabaaDoorShelf
/- strings.Builder: a byte, a string written (its copy check has a way that the loader refuses: it is not taken). -/
namespace Go.Proofs.YtgdapkbenmlabaaDoor.Pt
set_option linter.unusedSimpArgs false
set_option linter.unusedVariables false
open Go.RowKit

end Go.Proofs.YtgdapkbenmlabaaDoor.Pt
