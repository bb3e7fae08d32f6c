/- The document's Of at a literal. -/
import Derived.Test.YtchibjdhdbkdhaaDoorROf
namespace Go.Proofs.YtchibjdhdbkdhaaDoor
open Go.RowKit
set_option linter.unusedVariables false
theorem rof_lit (n : Nat) (z : Int) (hz : z = (n : Int)) (hn : n < 18446744073709551616) (w : World) :
    Calls Tryd.prog 30 #[.int .u64 z] w fun e w' => ∃ v, e = .returned v ∧ RefIs w' v n 3 ∧ Below w.heap.size w w' := by
  subst hz; exact rof_any n hn w
end Go.Proofs.YtchibjdhdbkdhaaDoor
