/- The document's Sub, below or not. -/
import Derived.Test.YtchibjdhdbkdhaaDoorRSub
import Derived.Test.YtchibjdhdbkdhaaDoorEnds
namespace Go.Proofs.YtchibjdhdbkdhaaDoor
open Go.RowKit
set_option linter.unusedVariables false

theorem rsub_both (w : World) (aa ab : Option Addr) (la ca lb cb m n K K' : Nat) (hK : K ≤ 1000000000) (hK' : K' ≤ 1000000000) (ha : RefIs w (.agg #[.slice aa la ca]) m K) (hb : RefIs w (.agg #[.slice ab lb cb]) n K') :
    Calls Tryd.prog 65 #[.agg #[.slice aa la ca], .agg #[.slice ab lb cb]] w fun e w' => ∃ ao l c, e = .returned (.tuple #[.agg #[.slice ao l c], .int .i64 (subE m n)]) ∧ RefIs w' (.agg #[.slice ao l c]) (m - n) K ∧ Below w.heap.size w w' := by
  by_cases h : m < n
  · refine (rsub_below w aa ab la ca lb cb m n K K' hK hK' ha hb h).mono ?_
    rintro e w' ⟨rfl, hw⟩
    exact ⟨none, 0, 0, by simp [subE, h], ⟨_, [], rfl, World.ownsRow_nil w' _ _ _, by intro j; simp [lg], fun h => by simp at h, by simp [R.val, R.pv]; omega, by simp⟩, hw⟩
  · refine (rsub_any w _ _ m n K K' hK hK' ha hb (by omega)).mono ?_
    rintro e w' ⟨v, rfl, nv, hw⟩
    obtain ⟨ao, l, c, rfl⟩ := nv.form
    exact ⟨ao, l, c, by simp [subE, h], nv, hw⟩
end Go.Proofs.YtchibjdhdbkdhaaDoor
