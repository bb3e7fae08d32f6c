/- How a text is cut, byte by byte. -/
import Derived.Test.YteelnimchlgdmaaDoorLMath
namespace Go.Proofs.YteelnimchlgdmaaDoor
set_option linter.unusedVariables false
set_option linter.unusedSimpArgs false

/-- Behind the first k bytes: the texts of L are cut off, what follows begins at f. -/
def CutRel (c : UInt8) (s : ByteArray) (L : List ByteArray) (f k : Nat) : Prop :=
  (k ≤ s.size ∧ f ≤ k ∧ cutAt c (bl s) = L.map bl ++ glue (bl (s.extract f k)) (cutAt c ((bl s).drop k))) ∨ (k = s.size + 1 ∧ parts c s = L)
theorem bl_ext (s : ByteArray) (f k : Nat) : bl (s.extract f k) = ((bl s).drop f).take (k - f) := by
  rw [bl_extract, List.drop_take]
theorem CutRel.start (c : UInt8) (s : ByteArray) : CutRel c s [] 0 0 := by
  refine Or.inl ⟨Nat.zero_le _, Nat.le_refl _, ?_⟩
  rw [bl_ext]
  simp only [List.map_nil, List.nil_append, List.drop_zero, Nat.sub_self, List.take_zero]
  rw [glue_nil _ (cutAt_ne c _)]
theorem CutRel.on {c : UInt8} {s : ByteArray} {L : List ByteArray} {f k : Nat} (h : CutRel c s L f k) (hk : k < s.size) (hb : bt s k ≠ c.toNat) : CutRel c s L f (k + 1) := by
  rcases h with ⟨h1, h2, h3⟩ | ⟨h1, _⟩
  · refine Or.inl ⟨by omega, by omega, ?_⟩
    have hne : s[k] ≠ c := fun e => hb (by rw [← bt_at s k hk, e])
    rw [h3, bl_drop s k hk, cutAt_miss hne, glue_glue _ _ _ (cutAt_ne c _)]
    congr 2
    rw [bl_ext, bl_ext, show k + 1 - f = (k - f) + 1 by omega, List.take_succ_eq_append_getElem (by rw [List.length_drop, bl_len]; omega)]
    congr 2
    rw [List.getElem_drop]
    have : f + (k - f) = k := by omega
    simp only [this]
    rfl
  · omega
theorem CutRel.hit {c : UInt8} {s : ByteArray} {L : List ByteArray} {f k : Nat} (h : CutRel c s L f k) (hk : k < s.size) (hb : bt s k = c.toNat) : CutRel c s (L ++ [s.extract f k]) (k + 1) (k + 1) ∧ s.extract f k ∈ parts c s := by
  rcases h with ⟨h1, h2, h3⟩ | ⟨h1, _⟩
  · have he : s[k] = c := UInt8.toNat_inj.1 (by rw [bt_at s k hk]; exact hb)
    rw [bl_drop s k hk, he, cutAt_hit] at h3
    simp only [glue, List.append_nil] at h3
    constructor
    · refine Or.inl ⟨by omega, by omega, ?_⟩
      rw [h3, bl_ext s (k + 1) (k + 1), Nat.sub_self, List.take_zero, glue_nil _ (cutAt_ne c _)]
      simp
    · unfold parts
      rw [h3]
      simp only [List.map_append, List.map_cons, ofL_bl]
      simp
  · omega
theorem CutRel.done {c : UInt8} {s : ByteArray} {L : List ByteArray} {f k : Nat} (h : CutRel c s L f k) (hk : k = s.size) : CutRel c s (L ++ [s.extract f k]) (k + 1) (k + 1) ∧ s.extract f k ∈ parts c s := by
  rcases h with ⟨h1, h2, h3⟩ | ⟨h1, _⟩
  · have hd : (bl s).drop k = [] := List.drop_eq_nil_of_le (by rw [bl_len]; omega)
    rw [hd] at h3
    simp only [cutAt, glue, List.append_nil] at h3
    have hp : parts c s = L ++ [s.extract f k] := by
      unfold parts
      rw [h3]
      simp only [List.map_append, List.map_cons, List.map_nil, List.map_map, ofL_bl]
      rw [show (ofL ∘ bl) = id from funext fun x => ofL_bl x, List.map_id]
    exact ⟨Or.inr ⟨by omega, hp⟩, by rw [hp]; simp⟩
  · omega
theorem CutRel.end' {c : UInt8} {s : ByteArray} {L : List ByteArray} {f k : Nat} (h : CutRel c s L f k) (hk : ¬ k ≤ s.size) : parts c s = L := by
  rcases h with ⟨h1, _, _⟩ | ⟨_, h2⟩
  · exact absurd h1 hk
  · exact h2
theorem CutRel.le {c : UInt8} {s : ByteArray} {L : List ByteArray} {f k : Nat} (h : CutRel c s L f k) (hk : k ≤ s.size) : f ≤ k := by
  rcases h with ⟨_, h2, _⟩ | ⟨h2, _⟩
  · exact h2
  · omega
theorem hole_app (L M : List ByteArray) : hole (L ++ M) = (hole L || hole M) := by simp [hole]
theorem hole_mem {L : List ByteArray} {x : ByteArray} (h : x ∈ L) (h0 : x.size = 0) : hole L = true := List.any_eq_true.2 ⟨x, h, by simp [h0]⟩
theorem hole_one {x : ByteArray} (h : x.size ≠ 0) : hole [x] = false := by simp [hole, h]
end Go.Proofs.YteelnimchlgdmaaDoor
