/- The law RecordDecodes. -/
import Derived.Test.YtgcfgfkociaooaaRcXdec
import Derived.Test.YtgcfgfkociaooaaRcSame
namespace Go.Proofs.Ytgcfgfkociaooaa
open Go.RowKit
set_option linter.unusedVariables false
set_option maxRecDepth 100000
set_option linter.unusedSimpArgs false

set_option maxHeartbeats 4000000 in
theorem rdecodes_any (s : ByteArray) (w : World) (hw : s.size ≤ maxLen) :
    Calls Try.prog 6 #[.string s] w fun e w' => e = .returned (.bool true) ∧ Below w.heap.size w w' := by
  unfold maxLen at hw
  by_cases hbig : 131072 < s.size
  · have hb' : (131072 : Int) < (s.size : Int) := by omega
    go_enter Try.func6, Try.ntmps6
    go_wp2
    go_ret
    exact ⟨by simp, Below.refl _ _⟩
  · have hb' : ¬ (131072 : Int) < (s.size : Int) := by omega
    go_enter Try.func6, Try.ntmps6
    go_wp2_with fail
    refine (decode_any w s (by omega)).mono ?_
    rintro e w1 ⟨l, L, n, rfl, D1, R1, b1⟩
    go_wp2_with fail
    refine (xdecode_any w1 s (by omega)).mono ?_
    rintro e w2 ⟨m, M, k, rfl, D2, R2, b2'⟩
    obtain ⟨rfl, rfl⟩ := D1.uniq D2
    have b2 := chain2 b1 b2'
    have HR1 := hid (R1.below b2').recs
    have HR2 := hid R2.recs
    clear D1 D2 R1 R2 b2'
    go_wp2_with fail
    refine (same_true w2 l m L HR1.out HR2.out).mono ?_
    rintro e w3 ⟨rfl, b3'⟩
    have b3 := chain2 b2 b3'
    go_wp2
    go_ret
    exact ⟨by simp, b3⟩
end Go.Proofs.Ytgcfgfkociaooaa
