/- The disk: New. -/
import Derived.Test.YthcefjkpiaecjaaDCalls
namespace Go.Proofs.Ythcefjkpiaecjaa
open Go.RowKit
set_option linter.unusedVariables false
set_option maxRecDepth 100000
set_option linter.unusedSimpArgs false

theorem new_info : (Try.prog.info? 54).map (fun i => (i.zero, i.size)) = some (some (.agg (dlist Dsk.new (.slice none 0 0)).toArray), 521) := by kernel_rfl
set_option maxHeartbeats 1000000 in
theorem new_any (w : World) :
    Calls Try.prog 5 #[] w fun e w' => e = .returned (.pointer (some ⟨w.heap.size, 0, none⟩)) ∧ DiskIs w' w.heap.size Dsk.new ∧ Below w.heap.size w w' := by
  go_enter Try.func5, Try.ntmps5
  obtain ⟨C, hC, hB⟩ : ∃ C, (∀ w, (zeroValue 54).run Try.prog w = .ok (.agg C) w) ∧ Hid (C = (dlist Dsk.new (.slice none 0 0)).toArray) := ⟨_, (zero_of_info new_info).1, rfl⟩
  go_wp2
  go_ret
  refine ⟨rfl, ⟨.slice none 0 0, ?_, World.ownsRow_nil _ _ _ _, Dsk.good_new⟩, (Below.refl _ _).alloc (Nat.le_refl _) _⟩
  rw [← hB.out]
  exact heap_alloc_last w _
end Go.Proofs.Ythcefjkpiaecjaa
