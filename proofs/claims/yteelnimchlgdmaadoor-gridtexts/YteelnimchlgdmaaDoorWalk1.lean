/- trim, limb, Cmp: what each call answers. -/
import Derived.Test.YteelnimchlgdmaaDoorBase
import Derived.BigQuiet
import Derived.Deep.QuietTactic
namespace Go.Proofs.YteelnimchlgdmaaDoor
open Go.RowKit
set_option linter.unusedVariables false
set_option maxRecDepth 100000
set_option linter.unusedSimpArgs false

end Go.Proofs.YteelnimchlgdmaaDoor
