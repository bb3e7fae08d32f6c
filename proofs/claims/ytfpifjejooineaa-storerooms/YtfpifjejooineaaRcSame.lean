/- The laws' helpers 'same' and 'heavy'. -/
import Derived.Test.YtfpifjejooineaaRcBase
import Derived.BigQuiet
import Derived.Deep.QuietTactic
namespace Go.Proofs.Ytfpifjejooineaa.Rc
open Go.RowKit
set_option linter.unusedVariables false
set_option maxRecDepth 100000
set_option linter.unusedSimpArgs false

theorem IsRecs.slice {w : World} {v : Value} {L : List Rec} (h : IsRecs w v L) : ∃ a c, v = .slice a L.length c ∧ L.length ≤ 9223372036854775807 := by
  obtain ⟨a, c, h1, h2, h3, _⟩ := h
  unfold maxLen at h3
  exact ⟨a, c, h1, by omega⟩
theorem IsInts.at {w : World} {v : Value} {L : List Int} (h : IsInts w v L) (i : Nat) (hi : i < L.length) : ∃ b off c, v = .slice (some ⟨b, off, none⟩) L.length c ∧ w.cell? ⟨b, off + i, none⟩ = some (.int .i64 L[i]) := by
  obtain ⟨h0, a, c, h1, h2, h3, h4⟩ := h
  rcases h4 with h4 | ⟨b, off, h4, h5⟩
  · rw [h4] at hi; simp at hi
  · exact ⟨b, off, c, by rw [h1, h4], h5 i hi⟩
theorem IsInts.slice {w : World} {v : Value} {L : List Int} (h : IsInts w v L) : ∃ a c, v = .slice a L.length c ∧ L.length ≤ 9223372036854775807 := by
  obtain ⟨h0, a, c, h1, h2, h3, h4⟩ := h
  unfold maxLen at h3
  exact ⟨a, c, h1, by omega⟩
set_option maxHeartbeats 8000000 in
theorem same_true (w : World) (va vb : Value) (L : List Rec) (ha : IsRecs w va L) (hb : IsRecs w vb L) :
    Calls Try.prog 13 #[va, vb] w fun e w' => e = .returned (.bool true) ∧ Below w.heap.size w w' := by
  obtain ⟨a1, c1, ea, hl⟩ := ha.slice
  obtain ⟨a2, c2, eb, _⟩ := hb.slice
  subst ea eb
  go_enter Try.func13, Try.ntmps13
  go_wp2
  go_loopw [5] (fun i wr => ∃ k : Nat, k ≤ L.length ∧ i = .int .i64 k ∧ Below w.heap.size w wr) (fun i _ => L.length - (intOf i).toNat)
  case atStart => exact ⟨0, Nat.zero_le _, rfl, Below.refl _ _⟩
  case round =>
    obtain ⟨k, hk, rfl, hbel⟩ := hrel
    by_cases hlt : k < L.length
    · obtain ⟨b1, o1, d1, u1, e1, l1, m1, f1, r1⟩ := (ha.below hbel).at k hlt
      obtain ⟨b2, o2, d2, u2, e2, l2, m2, f2, r2⟩ := (hb.below hbel).at k hlt
      simp only [Value.slice.injEq] at e1 e2
      obtain ⟨rfl, _, rfl⟩ := e1
      obtain ⟨rfl, _, rfl⟩ := e2
      unfold maxLen at m1 m2
      obtain ⟨q1, x1, eq1, hN⟩ := r1.ints.slice
      obtain ⟨q2, x2, eq2, _⟩ := r2.ints.slice
      subst eq1 eq2
      have HI1 := hid r1.ints
      have HI2 := hid r2.ints
      have HR1 := hid r1
      have HR2 := hid r2
      obtain ⟨k1, w1, n1, t1, _⟩ := r1
      obtain ⟨k2, w2, n2, t2, _⟩ := r2
      obtain ⟨fk, fw, ft⟩ := f1
      unfold maxLen at fw ft
      clear f2
      have HA := hid ha
      have HB := hid hb
      clear ha hb
      generalize L[k] = r at *
      go_wp2_with fail
      go_quiet (fail)
      have hW : Below wr.heap.size wr (wr.drewN nq) := below_dn (Below.refl _ _) nq
      have hbW := chain2 hbel hW
      have HS1 := hid (HR1.out.below hW)
      have HS2 := hid (HR2.out.below hW)
      clear k1 w1 n1 t1 k2 w2 n2 t2 HR1 HR2 hbel HI1 HI2
      generalize wr.drewN nq = W at *
      clear hW
      go_wp2
      go_loopw [6] (fun i wr => ∃ m : Nat, m ≤ r.nums.length ∧ i = .int .i64 m ∧ Below W.heap.size W wr) (fun i _ => r.nums.length - (intOf i).toNat)
      case atStart => exact ⟨0, Nat.zero_le _, rfl, Below.refl _ _⟩
      case round =>
        obtain ⟨m, hm, rfl, hb2⟩ := hrel
        have r1 := HS1.out.below hb2
        have r2 := HS2.out.below hb2
        have hbw := chain2 hbW hb2
        have n1 := r1.nums
        have n2 := r2.nums
        by_cases hlm : m < r.nums.length
        · obtain ⟨g1, p1, y1, e1, z1⟩ := r1.ints.at m hlm
          obtain ⟨g2, p2, y2, e2, z2⟩ := r2.ints.at m hlm
          simp only [Value.slice.injEq] at e1 e2
          obtain ⟨rfl, _, rfl⟩ := e1
          obtain ⟨rfl, _, rfl⟩ := e2
          have hc1 : r.nums.length ≤ 9223372036854775807 := hN
          clear r1 r2
          generalize r.nums[m] = x at *
          go_wp2_with fail
          go_quiet (fail)
          have hW2 : Below W.heap.size W (wr.drewN nq) := below_dn hb2 nq
          clear n1 n2 z1 z2 hb2
          generalize wr.drewN nq = W2 at *
          go_wp2
          go_roundw
          case rel => exact ⟨m + 1, by omega, by go_num, hW2⟩
          case measure => simp [intOf]; omega
        · clear r1 r2
          go_wp2
          go_roundw
          case rel => exact ⟨k + 1, by omega, by go_num, hbw⟩
          case measure => simp [intOf]; omega
    · go_wp2
      go_ret
      exact ⟨rfl, hbel⟩
end Go.Proofs.Ytfpifjejooineaa.Rc
