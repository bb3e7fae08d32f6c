/- The law LexWords. -/
import Derived.Test.YtpjajpgphdnglaaDoorLHelp
import Derived.Test.YtpjajpgphdnglaaDoorLZWords
namespace Go.Proofs.YtpjajpgphdnglaaDoor
open Go.RowKit
set_option linter.unusedVariables false
set_option maxRecDepth 100000
set_option linter.unusedSimpArgs false

set_option maxHeartbeats 1600000 in
theorem lexWords_any (s : ByteArray) (w : World) (hs : s.size ≤ maxLen) (hm : Mx w) :
    Calls Tryd.prog 4 #[.string s] w fun e w' => e = .returned (.bool true) ∧ Below w.heap.size w w' := by
  unfold maxLen at hs
  by_cases h : 16384 < s.size
  · go_enter Tryd.func4, Tryd.ntmps4
    go_wp2
    go_ret
    exact ⟨rfl, Below.refl _ _⟩
  have hW := words_any s w (by omega) hm
  have hZ := fun v => zwords_any s v (by omega)
  generalize wordsE s = E at *
  generalize wordsL s = L at *
  go_enter Tryd.func4, Tryd.ntmps4
  go_wp2_with fail
  refine hW.mono ?_
  rintro e w1 ⟨⟨v, rfl, S1⟩, b1⟩
  clear hW
  obtain ⟨a1, c1, hv1, _, _⟩ := S1.slice
  rw [hv1] at S1 ⊢
  go_wp2_with fail
  refine (hZ _).mono ?_
  rintro e w2 ⟨⟨v2, rfl, S2⟩, b2⟩
  have S1' := S1.below b2
  have b2' := chain2 b1 b2
  clear hZ S1 b1 b2
  obtain ⟨a2, c2, hv2, _, _⟩ := S2.slice
  rw [hv2] at S2 ⊢
  go_wp2_with (go_at_call 11; refine (same_true _ _ _ L S1' S2).mono ?_; rintro e w3 ⟨rfl, b3⟩)
  have b3' := chain2 b2' b3
  go_ret
  exact ⟨by simp, b3'⟩
end Go.Proofs.YtpjajpgphdnglaaDoor
