/- slices.Clone of limbs. -/
import Derived.Test.YtchibjdhdbkdhaaDoorWalk1
import Derived.Test.YtchibjdhdbkdhaaDoorShelf
namespace Go.Proofs.YtchibjdhdbkdhaaDoor
open Go.RowKit
set_option linter.unusedVariables false
set_option maxRecDepth 100000
set_option linter.unusedSimpArgs false

theorem u32s_one (L : List Nat) : ∀ u ∈ u32s L, u.oneCell' = true := by
  intro u hu
  obtain ⟨_, _, rfl⟩ := List.mem_map.1 hu
  rfl
theorem clone_any (w : World) (v : Value) (L : List Nat) (hl : L.length ≤ 1000000000) (h : Limbs w v L) :
    Calls Tryd.prog 53 #[v] w fun e w' => (∃ v', e = .returned v' ∧ w'.ownsRow w.heap.size 73 1 v' L.length (u32s L)) ∧ Below w.heap.size w w' := by
  rcases h.form with ⟨rfl, rfl⟩ | ⟨g, cap, rfl, h1, h2, h3⟩
  · refine (Tryd.slices_Clone_nil 0 0 w).mono ?_
    rintro e w' ⟨rfl, rfl⟩
    exact ⟨⟨_, rfl, World.ownsRow_nil _ _ _ _⟩, Below.refl _ _⟩
  · obtain ⟨i0, hi, hz0, hz1, hz2⟩ := info_parts Tryd.info73
    refine (Tryd.slices_Clone i0 (.int .u32 0) 1 4 hi hz0 hz1 hz2 rfl (by omega) (fun w => Tryd.sizeOf73 w) g 0 L.length cap (u32s L) w (by simp [u32s]) (by unfold maxLen; omega) (by omega) ?_ (u32s_one L)).mono ?_
    · intro j u hj
      have hlt : j < L.length := by
        rcases Nat.lt_or_ge j L.length with e | e
        · exact e
        · rw [List.getElem?_eq_none (by rw [u32s_len]; exact e)] at hj; simp at hj
      rw [Nat.zero_add, u32s_at (L := L) h j hlt, ← hj]
      simp [u32s, lg, hlt]
    rintro e w' ⟨v', rfl, ho, _, hb⟩
    exact ⟨⟨v', rfl, ho⟩, hb⟩
end Go.Proofs.YtchibjdhdbkdhaaDoor
