/- The law LexNumbers. -/
import Derived.Test.YtpjajpgphdnglaaDoorLHelp
import Derived.Test.YtpjajpgphdnglaaDoorLNums
namespace Go.Proofs.YtpjajpgphdnglaaDoor
open Go.RowKit
set_option linter.unusedVariables false
set_option maxRecDepth 100000
set_option linter.unusedSimpArgs false

set_option maxHeartbeats 3200000 in
theorem lexNumbers_any (s : ByteArray) (w : World) (hs : s.size ≤ maxLen) (hm : Mx w) :
    Calls Tryd.prog 5 #[.string s] w fun e w' => e = .returned (.bool true) ∧ Below w.heap.size w w' := by
  unfold maxLen at hs
  by_cases h : 16384 < s.size
  · go_enter Tryd.func5, Tryd.ntmps5
    go_wp2
    go_ret
    exact ⟨rfl, Below.refl _ _⟩
  have h1 := fun v => number_any s v (by omega)
  have h2 := fun v => znumber_any s v (by omega)
  have h3 := fun v hm => numbers_any s v (by omega) hm
  have h4 := fun v => znumbers_any s v (by omega)
  have h5 := fun v => name_any s v (by omega)
  have h6 := fun v => zname_any s v (by omega)
  generalize numR s = r at *
  generalize numE s = E at *
  generalize numsE s = F at *
  generalize numsL s = L at *
  generalize nameB s = N at *
  go_enter Tryd.func5, Tryd.ntmps5
  go_wp2_with fail
  refine (h1 _).mono ?_
  rintro e w1 ⟨rfl, b1⟩
  clear h1
  go_wp2_with fail
  refine (h2 _).mono ?_
  rintro e w2 ⟨rfl, b2⟩
  clear h2
  have b2 := chain2 b1 b2
  go_wp2_with fail
  refine (h3 _ (hm.below b2)).mono ?_
  rintro e w3 ⟨⟨v3, rfl, S3⟩, b3⟩
  clear h3 hm
  have b3 := chain2 b2 b3
  obtain ⟨a3, c3, hv3, _, hc3⟩ := S3.slice
  rw [hv3] at S3 ⊢
  go_wp2_with fail
  refine (h4 _).mono ?_
  rintro e w4 ⟨⟨v4, rfl, S4⟩, b4'⟩
  clear h4
  have b4 := chain2 b3 b4'
  have S3 := S3.below b4'
  obtain ⟨a4, c4, hv4, _, _⟩ := S4.slice
  rw [hv4] at S4 ⊢
  unfold maxLen at hc3
  clear b4'
  go_wp2_with fail
  refine (h5 _).mono ?_
  rintro e w5 ⟨rfl, b5'⟩
  clear h5
  have b5 := chain2 b4 b5'
  have S3 := S3.below b5'
  have S4 := S4.below b5'
  clear b5'
  go_wp2_with fail
  refine (h6 _).mono ?_
  rintro e w6 ⟨rfl, b6'⟩
  clear h6
  have b6 := chain2 b5 b6'
  have S3 := S3.below b6'
  have S4 := S4.below b6'
  clear b6'
  go_wp2
  go_loopw [11] (fun i wr => ∃ k : Nat, k ≤ L.length ∧ i = .int .i64 (k : Int) ∧ Below w6.heap.size w6 wr) (fun i _ => L.length - (intOf i).toNat)
  case atStart => exact ⟨0, Nat.zero_le _, rfl, Below.refl _ _⟩
  case round =>
    obtain ⟨k, hk, rfl, hbel⟩ := hrel
    have hbw := chain2 b6 hbel
    by_cases hlt : k < L.length
    · obtain ⟨q1, o1, d1, e1, l1, m1, f1⟩ := (S3.below hbel).at k hlt
      obtain ⟨q2, o2, d2, e2, l2, m2, f2⟩ := (S4.below hbel).at k hlt
      simp only [Value.slice.injEq] at e1 e2
      obtain ⟨rfl, _, rfl⟩ := e1
      obtain ⟨rfl, _, rfl⟩ := e2
      unfold maxLen at m1 m2
      have HA := hid S3
      have HB := hid S4
      clear S3 S4
      generalize L[k] = x at *
      go_wp2_with fail
      go_quiet (fail)
      have hbW := below_dn hbel nq
      clear f1 f2 hbel
      generalize wr.drewN nq = W at *
      go_wp2
      go_roundw
      case rel => exact ⟨k + 1, by omega, by go_num, hbW⟩
      case measure => simp [intOf]; omega
    · go_wp2
      go_ret
      exact ⟨rfl, hbw⟩
end Go.Proofs.YtpjajpgphdnglaaDoor
