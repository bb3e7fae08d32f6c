/- Slices of texts that came in. -/
import Derived.Test.YtpjajpgphdnglaaDoorLJoinsWalk
import Derived.OpenShut
import Derived.SliceStrings
namespace Go.Proofs.YtpjajpgphdnglaaDoor
open Go.RowKit
set_option linter.unusedVariables false
set_option linter.unusedSimpArgs false

/-- A slice of strings that came in: nil, or a row of cells. -/
def IsStrs (w : World) (a : Option Addr) (len cap : Nat) (ss : List ByteArray) : Prop :=
  (a = none ∧ len = 0 ∧ cap = 0 ∧ ss = []) ∨
  ∃ x, a = some x ∧ len ≤ cap ∧ cap ≤ maxLen ∧ len ≤ ss.length ∧ (∀ i, i < ss.length → w.cell? (x.add i) = some (.string (ss.getD i ByteArray.empty))) ∧ ∀ s ∈ ss, s.size ≤ maxLen
theorem IsStrs.strs {w : World} {a : Option Addr} {len cap : Nat} {ss : List ByteArray} (h : IsStrs w a len cap ss) : ∃ L, L.length = len ∧ Strs w (.slice a len cap) L ∧ InSlice (.slice a len cap) L.length := by
  rcases h with ⟨rfl, rfl, rfl, rfl⟩ | ⟨x, rfl, h1, h2, h3, h4, h5⟩
  · exact ⟨[], rfl, Strs.nil w, Or.inl ⟨rfl, rfl⟩⟩
  · have hl : (ss.take len).length = len := by rw [List.length_take]; omega
    refine ⟨ss.take len, hl, ⟨⟨some x, cap, ?_, ?_, h2, ?_⟩, fun s hs => h5 s (List.mem_of_mem_take hs)⟩, Or.inr ⟨x, cap, ?_⟩⟩
    · rw [strV_len, hl]
    · rw [strV_len, hl]; exact h1
    · by_cases h0 : len = 0
      · left; subst h0; rfl
      · right
        obtain ⟨b, off, q⟩ := x
        cases q with
        | none =>
          refine ⟨b, off, rfl, fun i hi => ?_⟩
          rw [strV_len, hl] at hi
          have hx := h4 i (by omega)
          rw [add_off] at hx
          rw [hx, strV_at _ i (by rw [hl]; exact hi)]
          simp [List.getD_eq_getElem?_getD, show i < ss.length by omega]
        | some q =>
          have h0' := h4 0 (by omega)
          unfold World.cell? at h0'
          simp [Addr.add] at h0'
          split at h0' <;> simp_all
    · rw [hl]
end Go.Proofs.YtpjajpgphdnglaaDoor
