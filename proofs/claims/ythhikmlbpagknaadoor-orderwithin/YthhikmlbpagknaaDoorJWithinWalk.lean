/- The law OrderWithin. -/
import Derived.Test.YthhikmlbpagknaaDoorJWithStep
import Derived.Test.YthhikmlbpagknaaDoorJWithRest
import Derived.Test.YthhikmlbpagknaaDoorJHelp
namespace Go.Proofs.YthhikmlbpagknaaDoor
open Go.RowKit
set_option linter.unusedVariables false
set_option maxRecDepth 100000
set_option linter.unusedSimpArgs false

set_option maxHeartbeats 6400000 in
theorem orderWithin_any (who line : ByteArray) (g : Gd) (la : Option Addr) (ln lc : Nat) (w : World) (hm : Mx w) (hw : who.size ≤ 9223372036854775807) (hl : line.size ≤ 9223372036854775807) (hn : ln ≤ 9223372036854775807) (hzones : g.zones ≤ 9223372036854775807) (hhours : g.hours ≤ 9223372036854775807) :
    Calls Tryd.prog 6 #[.string who, .string line, .agg #[.int .i64 g.zones, .int .i64 g.hours, .slice la ln lc, .int .i64 g.low, .int .i64 g.high]] w fun r w' => r = .returned (.bool true) ∧ Below w.heap.size w w' := by
  have b1 := (Below.refl w.heap.size w).alloc (Nat.le_refl _) (Obj.cells #[.int .i64 g.zones, .int .i64 g.hours, .slice la ln lc, .int .i64 g.low, .int .i64 g.high] 24)
  have e1 : (w.alloc (Obj.cells #[.int .i64 g.zones, .int .i64 g.hours, .slice la ln lc, .int .i64 g.low, .int .i64 g.high] 24)).heap[w.heap.size]? = some (Obj.cells #[.int .i64 g.zones, .int .i64 g.hours, .slice la ln lc, .int .i64 g.low, .int .i64 g.high] 24 (0, 0)) := heap_alloc_last w _
  by_cases hh : 4096 < who.size ∨ 4096 < line.size ∨ 256 < ln
  · have hH := fun v => heavy9_yes who line g.zones g.hours g.low g.high la ln lc v hw hl hn hh
    clear hh hw hl hn
    go_enter Tryd.func6, Tryd.ntmps6
    go_wp2_with fail
    refine (hH _).mono ?_
    rintro r2 W2 ⟨rfl, b2⟩
    go_wp2
    go_ret
    exact ⟨rfl, chain2 b1 b2⟩
  by_cases h0 : (par who line g).1 = 0
  · rcases par_within who line g h0 with h | h | h | h
    · exact within_lock who line g la ln lc w hm hh hzones hhours _ _ rfl rfl h0 h
    · exact within_cancel who line g la ln lc w hm hh hzones hhours _ _ rfl rfl h0 h
    · exact within_step who line g la ln lc w hm hh hzones hhours _ _ rfl rfl h0 h
    · exact within_block who line g la ln lc w hm hh hzones hhours _ _ rfl rfl h0 h
  · exact within_bad who line g la ln lc w hm hh hzones hhours _ _ rfl rfl h0
end Go.Proofs.YthhikmlbpagknaaDoor
