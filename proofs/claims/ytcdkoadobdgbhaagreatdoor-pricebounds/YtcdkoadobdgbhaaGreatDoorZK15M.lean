/- market: steps in memory, rows of n cells, the problem of an hour. -/
import Derived.Test.YtcdkoadobdgbhaaGreatDoorPk15
import Derived.Test.YtcdkoadobdgbhaaGreatDoorPk16
namespace Go.Proofs.YtcdkoadobdgbhaaGreatDoor
open Go.RowKit
set_option linter.unusedVariables false
set_option maxRecDepth 100000
set_option linter.unusedSimpArgs false

/-- A step. -/
structure Sp where
  who : ByteArray
  seq : Int
  zone : Int
  hour : Int
  buy : Bool
  qty : Int
  price : Int
def spV (s : Sp) : List Value := [.string s.who, .int .i64 s.seq, .int .i64 s.zone, .int .i64 s.hour, .bool s.buy, .int .i64 s.qty, .int .i64 s.price]
/-- Seven cells of a step. -/
def SpAt (w : World) (b o : Nat) (s : Sp) : Prop :=
  w.cell? ⟨b, o, none⟩ = some (.string s.who) ∧ w.cell? ⟨b, o + 1, none⟩ = some (.int .i64 s.seq) ∧ w.cell? ⟨b, o + 2, none⟩ = some (.int .i64 s.zone) ∧ w.cell? ⟨b, o + 3, none⟩ = some (.int .i64 s.hour) ∧ w.cell? ⟨b, o + 4, none⟩ = some (.bool s.buy) ∧ w.cell? ⟨b, o + 5, none⟩ = some (.int .i64 s.qty) ∧ w.cell? ⟨b, o + 6, none⟩ = some (.int .i64 s.price)
theorem SpAt.below {w w' : World} {b o : Nat} {s : Sp} (h : SpAt w b o s) (k : Below w.heap.size w w') : SpAt w' b o s := by
  obtain ⟨h0, h1, h2, h3, h4, h5, h6⟩ := h
  exact ⟨ikc k h0, ikc k h1, ikc k h2, ikc k h3, ikc k h4, ikc k h5, ikc k h6⟩
/-- Steps that came in, or were laid. -/
def Sps (w : World) (v : Value) (S : List Sp) : Prop :=
  ∃ a c, v = .slice a S.length c ∧ S.length ≤ c ∧ c ≤ maxLen ∧ (S = [] ∨ ∃ b off, a = some ⟨b, off, none⟩ ∧ ∀ i (h : i < S.length), SpAt w b (off + i * 7) S[i])
theorem Sps.below {w w' : World} {v : Value} {S : List Sp} (h : Sps w v S) (k : Below w.heap.size w w') : Sps w' v S := by
  obtain ⟨a, c, h1, h2, h3, h4⟩ := h
  refine ⟨a, c, h1, h2, h3, ?_⟩
  rcases h4 with h4 | ⟨b, off, h4, h5⟩
  · exact Or.inl h4
  · exact Or.inr ⟨b, off, h4, fun i hi => (h5 i hi).below k⟩
theorem Sps.slice {w : World} {v : Value} {S : List Sp} (h : Sps w v S) : ∃ a c, v = .slice a S.length c ∧ S.length ≤ c ∧ c ≤ maxLen := by
  obtain ⟨a, c, h1, h2, h3, _⟩ := h
  exact ⟨a, c, h1, h2, h3⟩
theorem Sps.at {w : World} {v : Value} {S : List Sp} (h : Sps w v S) (i : Nat) (hi : i < S.length) : ∃ b off c, v = .slice (some ⟨b, off, none⟩) S.length c ∧ SpAt w b (off + i * 7) S[i] := by
  obtain ⟨a, c, h1, h2, h3, h4⟩ := h
  rcases h4 with rfl | ⟨b, off, rfl, h5⟩
  · simp at hi
  · exact ⟨b, off, c, h1, h5 i hi⟩
/-- n cells each. -/
theorem n_at (n : Nat) : ∀ (C : List (List Value)), (∀ c ∈ C, c.length = n) → ∀ (k j : Nat) (hk : k < C.length), j < n → C.flatten[k * n + j]? = (C[k])[j]?
  | [], _, k, j, hk, _ => by simp at hk
  | x :: T, h, 0, j, _, hj => by
    rw [List.flatten_cons, Nat.zero_mul, Nat.zero_add, List.getElem?_append_left (by rw [h x List.mem_cons_self]; exact hj)]
    rfl
  | x :: T, h, k + 1, j, hk, hj => by
    have h1 : (k + 1) * n = k * n + n := Nat.succ_mul k n
    have hx := h x List.mem_cons_self
    rw [List.flatten_cons, List.getElem?_append_right (by rw [hx]; omega), hx, show (k + 1) * n + j - n = k * n + j by omega, n_at n T (fun c hc => h c (List.mem_cons_of_mem _ hc)) k j (by simpa using hk) hj]
    rfl
/-- A row of one's own, n cells each. -/
structure Wr {α : Type} (enc : α → List Value) (n : Nat) (e : TypeId) (w : World) (base : Nat) (v : Value) (X : List α) : Prop where
  own : w.ownsRow base e n v X.length (X.map enc).flatten
  n_ : ∀ x, (enc x).length = n
section
variable {α : Type} {enc : α → List Value} {n : Nat} {e : TypeId} {w w' : World} {base : Nat} {v v' : Value} {X : List α}
theorem Wr.below (h : Wr enc n e w base v X) (b : Below w.heap.size w w') : Wr enc n e w' base v X := ⟨own_below h.own b, h.n_⟩
theorem Wr.slice (h : Wr enc n e w base v X) : ∃ a c, v = .slice a X.length c ∧ X.length ≤ c ∧ c ≤ 9223372036854775807 := by
  rcases h.own.2 with ⟨e0, hz⟩ | ⟨g, cap, cur, e0, hb, hh, q1, q2, _⟩
  · exact ⟨none, 0, by rw [e0, hz], by omega, by omega⟩
  · unfold maxLen at q2
    exact ⟨_, cap, e0, q1, by omega⟩
theorem Wr.at (h : Wr enc n e w base v X) (i : Nat) (hi : i < X.length) : ∃ g c, v = .slice (some ⟨g, 0, none⟩) X.length c ∧ base ≤ g ∧ ∀ j u, (enc X[i])[j]? = some u → w.cell? ⟨g, i * n + j, none⟩ = some u := by
  rcases h.own.2 with ⟨e0, hz⟩ | ⟨g, cap, cur, e0, hb, hh, q1, q2, _⟩
  · omega
  · refine ⟨g, cap, e0, hb, fun j u hu => ?_⟩
    have hj : j < n := by have := (List.getElem?_eq_some_iff.1 hu).1; rw [h.n_] at this; exact this
    have := h.own.cells (g := g) (by rw [e0]; rfl) (i * n + j) u (by rw [n_at n (X.map enc) (by intro c hc; obtain ⟨x, _, rfl⟩ := List.mem_map.1 hc; exact h.n_ x) i j (by simpa using hi) hj]; simpa using hu)
    rw [add_off, Nat.zero_add] at this
    exact this
theorem Wr.push (h : Wr enc n e w base v X) {x : α} (ho : w'.ownsRow base e n v' (X.length + 1) ((X.map enc).flatten ++ enc x)) : Wr enc n e w' base v' (X ++ [x]) :=
  ⟨by rw [List.length_append, List.map_append, List.flatten_append]; simpa using ho, h.n_⟩
theorem Wr.none (hn : ∀ x, (enc x).length = n) (w : World) (base : Nat) : Wr enc n e w base (.slice none 0 0) ([] : List α) := ⟨⟨by simp, .inl ⟨rfl, rfl⟩⟩, hn⟩
end
end Go.Proofs.YtcdkoadobdgbhaaGreatDoor
