/- lex: runes and names, the program's and the document's. -/
import Derived.Test.YtcdkoadobdgbhaaGreatDoorRows
import Derived.Test.YtcdkoadobdgbhaaGreatDoorZLMath
import Derived.WalkKit
import Derived.WalkSpells
import Derived.WalkLawsBesides
import Derived.Laws.RangeAny
import Derived.Below
namespace Go.Proofs.YtcdkoadobdgbhaaGreatDoor
open Go.RowKit
set_option linter.unusedVariables false
set_option maxRecDepth 100000
set_option linter.unusedSimpArgs false

theorem hid {p : Prop} (h : p) : Hid p := h
end Go.Proofs.YtcdkoadobdgbhaaGreatDoor
