/- DiskScript: what the call answers. -/
import Derived.Test.YtchibjdhdbkdhaaEStepWalk
namespace Go.Proofs.Ytchibjdhdbkdhaa
open Go.RowKit
set_option linter.unusedVariables false
set_option maxRecDepth 100000
set_option linter.unusedSimpArgs false

theorem both_new {w W1 W2 : World} {b : Nat} (hd : DiskIs W1 b Dsk.new) (hr : ∃ vw vi, RAt W2 W1.heap.size Dsk.new vw vi (.slice none 0 0) 0 0 0) (hb : Below W1.heap.size W1 W2) : Both W2 b W1.heap.size Dsk.new := by
  obtain ⟨sl, hd⟩ := hd
  obtain ⟨vw, vi, hr⟩ := hr
  exact ⟨Inv.new, sl, vw, vi, _, _, _, _, hd.below hb, hr, fun g _ => by simp [Value.ownBlock]⟩
set_option maxHeartbeats 4000000 in
theorem script_any (a0 : Option Addr) (len0 cap0 : Nat) (z : Nat → Stp) (w : World) (w0 : IsSteps w a0 len0 cap0 z) :
    Calls Try.prog 5 #[.slice a0 len0 cap0] w fun e w' => e = .returned (.bool true) ∧ Below w.heap.size w w' := by
  go_enter Try.func5, Try.ntmps5
  go_wp2_with fail
  refine (heavy_any w a0 len0 cap0 z w0).mono ?_
  rintro e W0 ⟨h | ⟨h, hlen⟩, rfl⟩
  · rw [h]
    go_wp2
    go_ret
    exact ⟨rfl, Below.refl _ _⟩
  rw [h]
  clear h
  have hlen' : (len0 : Int) ≤ 1024 := by omega
  go_wp2_with fail
  refine (new_any W0).mono ?_
  rintro e W1 ⟨rfl, hd, hb⟩
  have hs1 : W0.heap.size < W1.heap.size := by obtain ⟨sl, h⟩ := hd; exact lt_of_block h.blk
  go_wp2_with fail
  refine (enew_any W1).mono ?_
  rintro e W2 ⟨rfl, hr, hb2⟩
  have hB := both_new (w := W0) hd hr hb2
  have hbb := hb.trans (hb2.mono (by omega))
  clear hd hr hb hb2
  generalize W1.heap.size = c at *
  clear W1
  go_wp2
  go_loopw [5] (fun i W => ∃ (k : Nat) (D : Dsk), k ≤ len0 ∧ i = .int .i64 k ∧ D.ops ≤ k ∧ Both W W0.heap.size c D ∧ Below W0.heap.size W0 W) (fun i _ => len0 - (intOf i).toNat)
  case atStart => exact ⟨0, _, Nat.zero_le _, rfl, Nat.le_refl _, hB, hbb⟩
  case round =>
    obtain ⟨k, D, hk, rfl, hops, hB1, hb1⟩ := hrel
    clear hB hbb
    by_cases hlt : k < len0
    · obtain ⟨b, off, rfl, hs, hf, hl, hc, hbl⟩ := w0.at k hlt
      have hs1 := hs.below hb1
      have c0 := hs1.kind
      have c1 := hs1.i
      have c2 := hs1.s
      have c3 := hs1.keep
      have HST := hid (D.step_ops (z k))
      generalize z k = v at *
      go_wp2_with fail
      refine (step_any _ W0.heap.size W0.heap.size c D v hf (by omega) (Nat.le_refl _) (by omega) hB1).mono ?_
      rintro e W3 ⟨rfl, hB3, hb3⟩
      have hb4 := hb1.trans hb3
      clear hb1 hb3 hB1 c0 c1 c2 c3 hs1
      go_wp2
      go_roundw
      case rel => exact ⟨k + 1, _, by omega, by go_num, by have := HST.out; omega, hB3, hb4⟩
      case measure => simp [intOf]; omega
    · go_wp2_with fail
      refine (same_any _ W0.heap.size c D hB1).mono ?_
      rintro e W3 ⟨rfl, hb3⟩
      have hb4 := hb1.trans (hb3.mono hb1.size)
      go_wp2
      go_ret
      exact ⟨rfl, hb4⟩
end Go.Proofs.Ytchibjdhdbkdhaa
