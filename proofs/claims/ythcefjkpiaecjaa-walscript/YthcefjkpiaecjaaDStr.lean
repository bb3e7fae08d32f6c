/- What several laws of the disk share: strings that came in; plain facts. -/
import Derived.Test.YthcefjkpiaecjaaDNew
import Derived.OpenShut
import Derived.SliceStrings
namespace Go.Proofs.Ythcefjkpiaecjaa
open Go.RowKit
set_option linter.unusedVariables false
set_option maxRecDepth 100000
set_option linter.unusedSimpArgs false

/-- A slice of strings that came in: nil, or a row of cells. -/
def IsStrs (w : World) (a : Option Addr) (len cap : Nat) (ss : List ByteArray) : Prop :=
  (a = none ∧ len = 0 ∧ cap = 0 ∧ ss = []) ∨
  ∃ x, a = some x ∧ len ≤ cap ∧ cap ≤ maxLen ∧ len ≤ ss.length ∧ (∀ i, i < ss.length → w.cell? (x.add i) = some (.string (ss.getD i ByteArray.empty))) ∧ ∀ s ∈ ss, s.size ≤ maxLen
theorem IsStrs.at {w : World} {a : Option Addr} {len cap : Nat} {ss : List ByteArray} (h : IsStrs w a len cap ss) (i : Nat) (hi : i < len) :
    ∃ b off, a = some ⟨b, off, none⟩ ∧ w.cell? ⟨b, off + i, none⟩ = some (.string (ss.getD i ByteArray.empty)) ∧ (ss.getD i ByteArray.empty).size ≤ 9223372036854775807 ∧ len ≤ cap ∧ cap ≤ maxLen := by
  rcases h with ⟨_, h, _⟩ | ⟨x, rfl, h1, h2, h3, h4, h5⟩
  · omega
  · have hx := h4 i (by omega)
    obtain ⟨b, off, s⟩ := x
    cases s with
    | none => exact ⟨b, off, rfl, by simpa [add_off] using hx, by have := h5 (ss.getD i ByteArray.empty) (by rw [List.getD_eq_getElem?_getD, List.getElem?_eq_getElem (by omega)]; simp); unfold maxLen at this; omega, h1, h2⟩
    | some q =>
      have h0 := h4 0 (by omega)
      unfold World.cell? at h0
      simp [Addr.add] at h0
      split at h0 <;> simp_all
theorem below_kp {B b : Nat} {w u v : World} (h : Below B w u) (k : Kp B b u v) : Below B w v := h.trans k.bel
theorem ret_eq {a b : Int} (h : a = b) : Ending.returned (.bool (a == b)) = .returned (.bool true) := by rw [h]; simp
theorem write_big (D : Dsk) (i : Nat) (s : ByteArray) (hi : i < 256) (hs : 256 < s.size) : D.write i s = (D, 41) := by
  unfold Dsk.write; rw [if_neg (by omega), if_pos hs]
theorem write_begin (D : Dsk) (i : Nat) (s : ByteArray) (hi : i < 256) (hs : s.size ≤ 256) : D.write i s = if D.begin.2 = 0 then (D.begin.1.put i s, 0) else D.begin := by
  unfold Dsk.write; rw [if_neg (by omega), if_neg (by omega)]; simp
theorem read_in (D : Dsk) (i : Nat) (hi : i < 256) : D.read i = D.wr.getD i ByteArray.empty := by
  unfold Dsk.read; rw [if_neg (by omega)]; simp
theorem readE_in (i : Nat) (hi : i < 256) : readE i = 0 := by
  unfold readE; rw [if_neg (by omega)]
end Go.Proofs.Ythcefjkpiaecjaa
