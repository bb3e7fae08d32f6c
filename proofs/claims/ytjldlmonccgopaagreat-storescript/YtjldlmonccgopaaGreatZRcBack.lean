/- What the law RecordBack keeps: the records that were good, and where they end. -/
import Derived.Test.YtjldlmonccgopaaGreatPk12
import Derived.Test.YtjldlmonccgopaaGreatPk13
import Derived.Test.YtjldlmonccgopaaGreatZRcOpen
import Derived.Test.YtjldlmonccgopaaGreatPk11
namespace Go.Proofs.YtjldlmonccgopaaGreat.Rc
open Go.RowKit
set_option linter.unusedVariables false
set_option maxRecDepth 100000
set_option linter.unusedSimpArgs false

theorem of_append (s t : ByteArray) : Bs.of (s ++ t) = Bs.of s ++ Bs.of t := by
  simp [Bs.of, ByteArray.data_append]
/-- Where the records end, one behind the other. -/
def eL (G : List Rec) : List Int := (List.range (G.length + 1)).map fun m => ((encs (G.take m)).length : Int)
theorem eL_len (G : List Rec) : (eL G).length = G.length + 1 := by simp [eL]
theorem eL_snoc (G : List Rec) (r : Rec) : eL (G ++ [r]) = eL G ++ [((encs (G ++ [r])).length : Int)] := by
  unfold eL
  rw [List.length_append, List.length_singleton, List.range_succ, List.map_append]
  congr 1
  · apply List.map_congr_left
    intro m hm
    rw [List.mem_range] at hm
    rw [List.take_append_of_le_length (by omega)]
  · simp only [List.map_cons, List.map_nil]
    rw [List.take_of_length_le (by simp)]
theorem eL_at (G : List Rec) (m : Nat) (h : m ≤ G.length) : (eL G)[m]'(by rw [eL_len]; omega) = ((encs (G.take m)).length : Int) := by simp [eL]
theorem eL_fits (G : List Rec) (h : (encs G).length < 9223372036854775808) : ∀ n ∈ eL G, I64 n := by
  intro n hn
  simp only [eL, List.mem_map] at hn
  obtain ⟨m, _, rfl⟩ := hn
  have := congrArg List.length (congrArg encs (List.take_append_drop m G))
  rw [encs_app, List.length_append] at this
  unfold I64; omega
/-- Records whose numbers came in. -/
def GRow (B : Nat) (w : World) (base : Nat) (l : Value) (L : List Rec) : Prop :=
  (∀ r ∈ L, Good r) ∧ ∃ vs : List Value, vs.length = L.length ∧ w.ownsRow base 81 4 l L.length (flat L vs) ∧ ∀ i (h : i < L.length) (h' : i < vs.length), IsInts w vs[i] L[i].nums ∧ (L[i].nums ≠ [] → ∃ b, vs[i].ownBlock = some b ∧ b < B)
theorem GRow.row {B base : Nat} {w : World} {l : Value} {L : List Rec} (h : GRow B w base l L) (hB : B ≤ base) : Row w base l L := by
  obtain ⟨hf, vs, h1, h2, h3⟩ := h
  refine ⟨fun r hr => (hf r hr).fits, vs, h1, h2, fun i hi hi' => ⟨(h3 i hi hi').1, fun hn e => ?_⟩⟩
  obtain ⟨b, hb, hlt⟩ := (h3 i hi hi').2 hn
  have := (h2.lt b (by rw [← e, hb])).1
  omega
theorem GRow.below {B base : Nat} {w w' : World} {l : Value} {L : List Rec} (h : GRow B w base l L) (k : Below w.heap.size w w') : GRow B w' base l L := by
  obtain ⟨hf, vs, h1, h2, h3⟩ := h
  exact ⟨hf, vs, h1, own_below h2 k, fun i hi hi' => ⟨(h3 i hi hi').1.below k, (h3 i hi hi').2⟩⟩
theorem GRow.own {B base : Nat} {w : World} {l : Value} {L : List Rec} (h : GRow B w base l L) : ∃ xs, w.ownsRow base 81 4 l L.length xs := by
  obtain ⟨_, vs, _, h2, _⟩ := h; exact ⟨_, h2⟩
/-- Another row of the call's own is written. -/
theorem GRow.other {B base : Nat} {w w' : World} {l : Value} {L : List Rec} {row : Option Nat} (h : GRow B w base l L) (hg : w.grownBy w' row) (hl : l.ownBlock = none ∨ l.ownBlock ≠ row) (hr : ∀ k, row = some k → B ≤ k) : GRow B w' base l L := by
  obtain ⟨hf, vs, h1, h2, h3⟩ := h
  refine ⟨hf, vs, h1, h2.kept hg hl, fun i hi hi' => ⟨(h3 i hi hi').1.grown hg (fun hn e => ?_), (h3 i hi hi').2⟩⟩
  obtain ⟨b, hb, hlt⟩ := (h3 i hi hi').2 hn
  have := hr b (by rw [← e, hb])
  omega
theorem GRow.made (B : Nat) (w : World) (base : Nat) (hb : base ≤ w.heap.size) : GRow B (w.alloc (.cells #[] 81)) base (.slice (some ⟨w.heap.size, 0, none⟩) 0 0) [] :=
  ⟨by simp, [], rfl, World.ownsRow_made w #[] 0 hb (Nat.zero_le _) (by simp), fun i hi => by simp at hi⟩
theorem GRow.snoc {B base : Nat} {w w' : World} {l l' v : Value} {L : List Rec} {r : Rec} {vs : List Value} (hB : B ≤ base) (hf : ∀ q ∈ L, Good q) (h1 : vs.length = L.length) (h2 : w.ownsRow base 81 4 l L.length (flat L vs)) (h3 : ∀ i (h : i < L.length) (h' : i < vs.length), IsInts w vs[i] L[i].nums ∧ (L[i].nums ≠ [] → ∃ b, vs[i].ownBlock = some b ∧ b < B))
    (hr : Good r) (hv : IsInts w v r.nums) (hvl : r.nums ≠ [] → ∃ b, v.ownBlock = some b ∧ b < B)
    (ho : w'.ownsRow base 81 4 l' (L.length + 1) (flat L vs ++ [.int .i64 r.kind, .string r.who, v, .string r.text])) (hg : w.grownBy w' l.ownBlock) : GRow B w' base l' (L ++ [r]) := by
  refine ⟨fun q hq => ?_, vs ++ [v], by simp [h1], by rw [flat_snoc L vs r v h1]; simpa using ho, fun i hi hi' => ?_⟩
  · rcases List.mem_append.1 hq with hq | hq
    · exact hf q hq
    · simp at hq; subst hq; exact hr
  · have key : ∀ (u : Value) (M : List Int), IsInts w u M → (M ≠ [] → ∃ b, u.ownBlock = some b ∧ b < B) → IsInts w' u M ∧ (M ≠ [] → ∃ b, u.ownBlock = some b ∧ b < B) := by
      intro u M hu hne
      refine ⟨hu.grown hg (fun hM e => ?_), hne⟩
      obtain ⟨b, hb, hlt⟩ := hne hM
      have := (h2.lt b (by rw [← e, hb])).1
      omega
    by_cases hlt : i < L.length
    · simp only [List.getElem_append_left hlt, List.getElem_append_left (show i < vs.length by omega)]
      exact key _ _ (h3 i hlt (by omega)).1 (h3 i hlt (by omega)).2
    · obtain rfl : i = L.length := by simp at hi; omega
      simp only [List.getElem_append_right (Nat.le_refl _), List.getElem_append_right (show vs.length ≤ L.length by omega), Nat.sub_self, h1, List.getElem_cons_zero]
      exact key _ _ hv hvl
/-- The first m of a row. -/
theorem IsRecs.head {w : World} {g cap : Nat} {L : List Rec} (h : IsRecs w (.slice (some ⟨g, 0, none⟩) L.length cap) L) (m : Nat) (hm : m ≤ L.length) : IsRecs w (.slice (some ⟨g, 0, none⟩) m cap) (L.take m) := by
  obtain ⟨a, c, h1, h2, h3, h4⟩ := h
  simp only [Value.slice.injEq] at h1
  obtain ⟨rfl, _, rfl⟩ := h1
  have hl : (L.take m).length = m := by rw [List.length_take]; omega
  refine ⟨_, cap, by rw [hl], by omega, h3, ?_⟩
  rcases h4 with h4 | ⟨b, off, h4, h5⟩
  · exact Or.inl (by rw [h4]; simp)
  · refine Or.inr ⟨b, off, h4, fun i hi => ?_⟩
    rw [List.getElem_take]
    exact h5 i (by omega)
theorem own_some {w : World} {base size : Nat} {e : TypeId} {v : Value} {n : Nat} {xs : List Value} (h : w.ownsRow base e size v n xs) (hn : v ≠ .slice none 0 0) : ∃ g cap, v = .slice (some ⟨g, 0, none⟩) n cap ∧ n ≤ cap ∧ cap ≤ maxLen := by
  rcases h.2 with ⟨rfl, _⟩ | ⟨g, cap, cur, rfl, _, _, h1, h2, _⟩
  · exact absurd rfl hn
  · exact ⟨g, cap, rfl, h1, h2⟩
/-- A number put into 0 .. n. -/
theorem into (a : Int) (n : Nat) : ∃ q : Int, Int.tmod a ((n : Int) + 1) = q ∧ -(n : Int) ≤ q ∧ q ≤ n ∧ ∃ p : Nat, Int.tmod (q + n + 1) ((n : Int) + 1) = (p : Int) ∧ p ≤ n := by
  have h1 : (n : Int) + 1 ≠ 0 := by omega
  have h2 := Int.tmod_lt_of_pos a (show (0 : Int) < (n : Int) + 1 by omega)
  have h3 := Int.tmod_lt_of_pos (-a) (show (0 : Int) < (n : Int) + 1 by omega)
  rw [Int.neg_tmod] at h3
  refine ⟨_, rfl, by omega, by omega, ?_⟩
  generalize Int.tmod a ((n : Int) + 1) = q at *
  have h4 : 0 ≤ q + n + 1 := by omega
  have h5 := Int.tmod_lt_of_pos (q + n + 1) (show (0 : Int) < (n : Int) + 1 by omega)
  have h6 := Int.tmod_nonneg ((n : Int) + 1) h4
  exact ⟨(Int.tmod (q + n + 1) ((n : Int) + 1)).toNat, by omega, by omega⟩
end Go.Proofs.YtjldlmonccgopaaGreat.Rc
