/- Rows put one behind the other. -/
import Derived.Test.YtjldlmonccgopaaGreatZRcBase
import Derived.Laws.AppendOwnNone
namespace Go.Proofs.YtjldlmonccgopaaGreat.Rc
open Go.RowKit
set_option linter.unusedVariables false
set_option maxRecDepth 100000
set_option linter.unusedSimpArgs false

theorem flat_one : ∀ (L : List Rec) (vs : List Value), (∀ v ∈ vs, v.oneCell' = true) → ∀ u ∈ flat L vs, u.oneCell' = true
  | [], _, _, u, hu => by simp [flat] at hu
  | r :: L, [], _, u, hu => by simp [flat] at hu
  | r :: L, v :: vs, h, u, hu => by
    simp only [flat, List.mem_cons] at hu
    rcases hu with rfl | rfl | rfl | rfl | hu
    · rfl
    · rfl
    · exact h _ (by simp)
    · rfl
    · exact flat_one L vs (fun v hv => h v (by simp [hv])) u hu
theorem IsInts.one {w : World} {v : Value} {L : List Int} (h : IsInts w v L) : v.oneCell' = true := by
  obtain ⟨_, a, c, rfl, _⟩ := h; rfl
/-- Rows of the call's own, one behind the other. -/
theorem Row.join {w w' : World} {base : Nat} {l l' : Value} {A L : List Rec} {vs us : List Value} (hA : ∀ q ∈ A, RecFits q) (h1 : vs.length = A.length) (h3 : ∀ i (h : i < A.length) (h' : i < vs.length), IsInts w vs[i] A[i].nums ∧ (A[i].nums ≠ [] → vs[i].ownBlock ≠ l.ownBlock))
    (hL : ∀ q ∈ L, RecFits q) (k1 : us.length = L.length) (k3 : ∀ i (h : i < L.length) (h' : i < us.length), IsInts w us[i] L[i].nums ∧ (L[i].nums ≠ [] → us[i].ownBlock ≠ l.ownBlock))
    (ho : w'.ownsRow base 81 4 l' (A.length + L.length) (flat A vs ++ flat L us)) (hg : w.grownBy w' l.ownBlock) (hat : l'.ownBlock = l.ownBlock ∨ l'.ownBlock = some w.heap.size) : Row w' base l' (A ++ L) := by
  refine ⟨fun q hq => ?_, vs ++ us, by simp [h1, k1], by rw [flat_app A L vs us h1]; simpa using ho, fun i hi hi' => ?_⟩
  · rcases List.mem_append.1 hq with hq | hq
    · exact hA q hq
    · exact hL q hq
  · have key : ∀ (u : Value) (M : List Int), IsInts w u M → (M ≠ [] → u.ownBlock ≠ l.ownBlock) → IsInts w' u M ∧ (M ≠ [] → u.ownBlock ≠ l'.ownBlock) := by
      intro u M hu hne
      refine ⟨hu.grown hg hne, fun hM => ?_⟩
      rcases hat with e | e
      · rw [e]; exact hne hM
      · obtain ⟨b, hb, hlt⟩ := hu.lt hM
        rw [e, hb]
        intro e2
        simp only [Option.some.injEq] at e2
        omega
    by_cases hlt : i < A.length
    · simp only [List.getElem_append_left hlt, List.getElem_append_left (show i < vs.length by omega)]
      exact key _ _ (h3 i hlt (by omega)).1 (h3 i hlt (by omega)).2
    · simp only [List.getElem_append_right (show A.length ≤ i by omega), List.getElem_append_right (show vs.length ≤ i by omega), h1]
      have hil : i - A.length < L.length := by simp at hi; omega
      exact key _ _ (k3 (i - A.length) hil (by omega)).1 (k3 (i - A.length) hil (by omega)).2
/-- A row that was there ahead, and its numbers, lie apart from a later one. -/
structure Src (w : World) (v : Value) (L : List Rec) (g : Nat) (cap : Nat) (us : List Value) : Prop where
  fits : ∀ q ∈ L, RecFits q
  len : us.length = L.length
  form : v = .slice (some ⟨g, 0, none⟩) L.length cap
  cells : ∀ j u, (flat L us)[j]? = some u → w.cell? ((⟨g, 0, none⟩ : Addr).add j) = some u
  ints : ∀ i (h : i < L.length) (h' : i < us.length), IsInts w us[i] L[i].nums
  low : ∀ i (h : i < L.length) (h' : i < us.length), L[i].nums ≠ [] → ∃ b, us[i].ownBlock = some b ∧ b < w.heap.size
theorem Row.src {w : World} {base : Nat} {v : Value} {L : List Rec} (h : Row w base v L) : (v = .slice none 0 0 ∧ L = []) ∨ ∃ g cap us, Src w v L g cap us := by
  obtain ⟨hf, us, h1, h2, h3⟩ := h
  rcases h2.2 with ⟨rfl, h0⟩ | ⟨g, cap, cur, rfl, _⟩
  · exact Or.inl ⟨rfl, List.eq_nil_of_length_eq_zero h0⟩
  · exact Or.inr ⟨g, cap, us, hf, h1, rfl, h2.cells (g := g) rfl, fun i hi hi' => (h3 i hi hi').1, fun i hi hi' hn => (h3 i hi hi').1.lt hn⟩
theorem Src.below {w w' : World} {v : Value} {L : List Rec} {g cap : Nat} {us : List Value} (h : Src w v L g cap us) (k : Below w.heap.size w w') : Src w' v L g cap us where
  fits := h.fits
  len := h.len
  form := h.form
  cells := fun j u hu => by
    have h1 := h.cells j u hu
    rw [add_off] at h1 ⊢
    exact (k.cell (World.block_lt_of_cell? w _ h1)).trans h1
  ints := fun i hi hi' => (h.ints i hi hi').below k
  low := fun i hi hi' hn => by
    obtain ⟨b, h1, h2⟩ := h.low i hi hi' hn
    exact ⟨b, h1, Nat.lt_of_lt_of_le h2 k.size⟩
theorem Src.one {w : World} {v : Value} {L : List Rec} {g cap : Nat} {us : List Value} (h : Src w v L g cap us) : ∀ u ∈ flat L us, u.oneCell' = true :=
  flat_one L us (fun v hv => by
    obtain ⟨i, hi, rfl⟩ := List.getElem_of_mem hv
    exact (h.ints i (by rw [← h.len]; exact hi) hi).one)
end Go.Proofs.YtjldlmonccgopaaGreat.Rc
