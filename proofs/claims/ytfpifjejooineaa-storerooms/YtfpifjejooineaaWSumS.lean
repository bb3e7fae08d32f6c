/- wal's laws: how long texts are together; a disk alone. -/
import Derived.Test.YtfpifjejooineaaWFault
namespace Go.Proofs.Ytfpifjejooineaa
open Go.RowKit
set_option linter.unusedVariables false
set_option linter.unusedSimpArgs false

/-- One and the length of each of the first k texts. -/
def sumS (ss : List ByteArray) : Nat → Nat
  | 0 => 0
  | k + 1 => sumS ss k + (1 + (ss.getD k ByteArray.empty).size)
theorem sumS_mono (ss : List ByteArray) {j k : Nat} (h : j ≤ k) : sumS ss j ≤ sumS ss k := by
  induction k with
  | zero => obtain rfl : j = 0 := by omega
            exact Nat.le_refl _
  | succ k ih =>
    by_cases e : j = k + 1
    · rw [e]; exact Nat.le_refl _
    · have := ih (by omega)
      simp only [sumS]; omega
theorem sumS_ge (ss : List ByteArray) : ∀ k, k ≤ sumS ss k
  | 0 => Nat.le_refl _
  | k + 1 => by have := sumS_ge ss k; simp only [sumS]; omega
/-- A disk in block b. -/
structure DSt (B : Nat) (w0 w : World) (b : Nat) (D : Dsk) : Prop where
  disk : DiskIs w b D
  bel : Below B w0 w
  hb : B ≤ b
theorem St.dst {B : Nat} {w0 w : World} {b l : Nat} {D : Dsk} {L : Lg} (h : St B w0 w b l D L) : DSt B w0 w b D := ⟨h.disk, h.bel, h.hb⟩
theorem d_open {B : Nat} {w0 w : World} {b : Nat} {D : Dsk} (h : DSt B w0 w b D) (hz : Sz D.wr) :
    Calls Try.prog 9 #[.pointer (some ⟨b, 0, none⟩)] w fun e w' => ∃ l' c t, e = .returned (.tuple #[.pointer (some ⟨l', 0, none⟩), .string t, .int .i64 0]) ∧ Tells D.wr c t ∧ St B w0 w' b l' D ⟨c, tailT t, 0⟩ := by
  have hlt : B ≤ w.heap.size := by obtain ⟨sl, hd⟩ := h.disk; have := lt_of_block hd.blk; have := h.hb; omega
  refine (open_any w b D hz h.disk).mono ?_
  rintro e w' ⟨⟨l', c, t, h1, h2, h3, h4⟩, hb⟩
  exact ⟨l', c, t, h1, h2, ⟨DiskIs.below h.disk hb, h3, h.bel.trans (hb.mono hlt), h.hb, by omega⟩⟩
end Go.Proofs.Ytfpifjejooineaa
