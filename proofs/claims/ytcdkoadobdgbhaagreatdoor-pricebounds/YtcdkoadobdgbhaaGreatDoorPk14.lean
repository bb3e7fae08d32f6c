/- LBase, IBase, S16M. -/
import Derived.Test.YtcdkoadobdgbhaaGreatDoorZLRune
import Derived.Deep.WholeRow
import Derived.Lib.OthersKept
import Derived.Lib.AppendStr
import Derived.Maps.AppendAt
import Derived.Test.YtcdkoadobdgbhaaGreatDoorPk0
/- Slices of texts and of numbers in memory. -/
namespace Go.Proofs.YtcdkoadobdgbhaaGreatDoor
open Go.RowKit
set_option linter.unusedVariables false
set_option linter.unusedSimpArgs false

theorem add_off (g o j : Nat) : (⟨g, o, none⟩ : Addr).add j = ⟨g, o + j, none⟩ := by unfold Addr.add; split <;> simp_all
theorem cell_at {w : World} {b : Nat} {L : List Value} {t : TypeId} {fz : Nat × Nat} (h : w.heap[b]? = some (.cells L.toArray t fz)) (k : Nat) (v : Value) (hk : L[k]? = some v) : w.cell? ⟨b, k, none⟩ = some v := by
  rw [cell_of_row _ _ k _ _ _ h]; simpa using hk
theorem free_at {w : World} {b : Nat} {L : List Value} {t : TypeId} (h : w.heap[b]? = some (.cells L.toArray t (0, 0))) (k : Nat) : w.frozen? ⟨b, k, none⟩ = false := by simp [World.frozen?, h]
theorem set_at {w : World} {b k : Nat} {L : List Value} {v : Value} {t : TypeId} {fz : Nat × Nat} (h : w.heap[b]? = some (.cells L.toArray t fz)) : (w.setCell ⟨b, k, none⟩ v).heap[b]? = some (.cells (L.set k v).toArray t fz) := by
  have hlt := lt_of_block h
  have h' : w.heap[b] = .cells L.toArray t fz := by simpa [Array.getElem?_eq_getElem hlt] using h
  show (w.heap.modify b _)[b]? = _
  simp [Array.getElem_modify, hlt, h']
theorem own_below {w w' : World} {base size : Nat} {e : TypeId} {v : Value} {n : Nat} {xs : List Value} (h : w.ownsRow base e size v n xs) (k : Below w.heap.size w w') : w'.ownsRow base e size v n xs := by
  obtain ⟨h1, h2⟩ := h
  refine ⟨h1, ?_⟩
  rcases h2 with h2 | ⟨g, cap, cur, hv, hb, hh, r⟩
  · exact Or.inl h2
  · exact Or.inr ⟨g, cap, cur, hv, hb, (k.block g (lt_of_block hh)).trans hh, r⟩
theorem chain2 {w a b : World} (h : Below w.heap.size w a) (k : Below a.heap.size a b) : Below w.heap.size w b := h.trans (k.mono h.size)
/-- A slice whose cells are the values of xs. -/
def Row1 (w : World) (v : Value) (xs : List Value) : Prop :=
  ∃ a c, v = .slice a xs.length c ∧ xs.length ≤ c ∧ c ≤ maxLen ∧ (xs = [] ∨ ∃ b off, a = some ⟨b, off, none⟩ ∧ ∀ i (h : i < xs.length), w.cell? ⟨b, off + i, none⟩ = some xs[i])
theorem Row1.below {w w' : World} {v : Value} {L : List Value} (h : Row1 w v L) (k : Below w.heap.size w w') : Row1 w' v L := by
  obtain ⟨a, c, h1, h2, h3, h4⟩ := h
  refine ⟨a, c, h1, h2, h3, ?_⟩
  rcases h4 with h4 | ⟨b, off, h4, h5⟩
  · exact Or.inl h4
  · exact Or.inr ⟨b, off, h4, fun i hi => (k.cell (World.block_lt_of_cell? w _ (h5 i hi))).trans (h5 i hi)⟩
theorem Row1.nil (w : World) : Row1 w (.slice none 0 0) [] := ⟨none, 0, rfl, Nat.le_refl _, Nat.zero_le _, Or.inl rfl⟩
theorem Row1.of_own {w : World} {base : Nat} {e : TypeId} {v : Value} {L : List Value} (h : w.ownsRow base e 1 v L.length L) : Row1 w v L := by
  rcases h.2 with ⟨rfl, h0⟩ | ⟨g, cap, cur, rfl, _, hh, h1, h2, _⟩
  · exact ⟨none, 0, by rw [h0], by omega, Nat.zero_le _, Or.inl (List.eq_nil_of_length_eq_zero h0)⟩
  · refine ⟨_, cap, rfl, h1, h2, Or.inr ⟨g, 0, rfl, fun i hi => ?_⟩⟩
    have := h.cells (g := g) rfl i L[i] (by simp [hi])
    rw [add_off] at this
    exact this
theorem Row1.at {w : World} {v : Value} {L : List Value} (h : Row1 w v L) (i : Nat) (hi : i < L.length) : ∃ b off c, v = .slice (some ⟨b, off, none⟩) L.length c ∧ L.length ≤ c ∧ c ≤ maxLen ∧ w.cell? ⟨b, off + i, none⟩ = some L[i] := by
  obtain ⟨a, c, h1, h2, h3, h4⟩ := h
  rcases h4 with h4 | ⟨b, off, h4, h5⟩
  · rw [h4] at hi; simp at hi
  · exact ⟨b, off, c, by rw [h1, h4], h2, h3, h5 i hi⟩
theorem Row1.slice {w : World} {v : Value} {L : List Value} (h : Row1 w v L) : ∃ a c, v = .slice a L.length c ∧ L.length ≤ c ∧ c ≤ maxLen := by
  obtain ⟨a, c, h1, h2, h3, _⟩ := h
  exact ⟨a, c, h1, h2, h3⟩
/-- A slice of texts. -/
def strV (L : List ByteArray) : List Value := L.map Value.string
theorem strV_len (L : List ByteArray) : (strV L).length = L.length := by simp [strV]
theorem strV_at (L : List ByteArray) (i : Nat) (h : i < L.length) : (strV L)[i]'(by rw [strV_len]; exact h) = .string L[i] := by simp [strV]
def Strs (w : World) (v : Value) (L : List ByteArray) : Prop := Row1 w v (strV L) ∧ ∀ x ∈ L, x.size ≤ maxLen
theorem Strs.below {w w' : World} {v : Value} {L : List ByteArray} (h : Strs w v L) (k : Below w.heap.size w w') : Strs w' v L := ⟨h.1.below k, h.2⟩
theorem Strs.nil (w : World) : Strs w (.slice none 0 0) [] := ⟨Row1.nil w, by simp⟩
theorem Strs.slice {w : World} {v : Value} {L : List ByteArray} (h : Strs w v L) : ∃ a c, v = .slice a L.length c ∧ L.length ≤ c ∧ c ≤ maxLen := by
  have := h.1.slice
  rwa [strV_len] at this
theorem Strs.at {w : World} {v : Value} {L : List ByteArray} (h : Strs w v L) (i : Nat) (hi : i < L.length) : ∃ b off c, v = .slice (some ⟨b, off, none⟩) L.length c ∧ L.length ≤ c ∧ c ≤ maxLen ∧ w.cell? ⟨b, off + i, none⟩ = some (.string L[i]) ∧ L[i].size ≤ maxLen := by
  obtain ⟨b, off, c, h1, h2, h3, h4⟩ := h.1.at i (by rw [strV_len]; exact hi)
  rw [strV_at L i hi] at h4
  rw [strV_len] at h1 h2
  exact ⟨b, off, c, h1, h2, h3, h4, h.2 _ (List.getElem_mem hi)⟩
/-- A slice of numbers. -/
def intV (L : List Int) : List Value := L.map fun x => Value.int .i64 x
theorem intV_len (L : List Int) : (intV L).length = L.length := by simp [intV]
theorem intV_at (L : List Int) (i : Nat) (h : i < L.length) : (intV L)[i]'(by rw [intV_len]; exact h) = .int .i64 L[i] := by simp [intV]
def Ints (w : World) (v : Value) (L : List Int) : Prop := Row1 w v (intV L)
theorem Ints.below {w w' : World} {v : Value} {L : List Int} (h : Ints w v L) (k : Below w.heap.size w w') : Ints w' v L := Row1.below h k
theorem Ints.slice {w : World} {v : Value} {L : List Int} (h : Ints w v L) : ∃ a c, v = .slice a L.length c ∧ L.length ≤ c ∧ c ≤ maxLen := by
  have := Row1.slice h
  rwa [intV_len] at this
theorem Ints.at {w : World} {v : Value} {L : List Int} (h : Ints w v L) (i : Nat) (hi : i < L.length) : ∃ b off c, v = .slice (some ⟨b, off, none⟩) L.length c ∧ L.length ≤ c ∧ c ≤ maxLen ∧ w.cell? ⟨b, off + i, none⟩ = some (.int .i64 L[i]) := by
  obtain ⟨b, off, c, h1, h2, h3, h4⟩ := Row1.at h i (by rw [intV_len]; exact hi)
  rw [intV_at L i hi] at h4
  rw [intV_len] at h1 h2
  exact ⟨b, off, c, h1, h2, h3, h4⟩
end Go.Proofs.YtcdkoadobdgbhaaGreatDoor
/- grid: lines and grids in memory. -/
namespace Go.Proofs.YtcdkoadobdgbhaaGreatDoor
open Go.RowKit
set_option linter.unusedVariables false
set_option maxRecDepth 100000
set_option linter.unusedSimpArgs false

structure Gr where
  zones : Int
  hours : Int
  low : Int
  high : Int
  lines : List Ln
def btw (lo n hi : Int) : Bool := decide (lo ≤ n) && decide (n ≤ hi)
theorem btw_true {lo n hi : Int} (h : btw lo n hi = true) : lo ≤ n ∧ n ≤ hi := by simpa [btw] using h
theorem btw_false {lo n hi : Int} (h : btw lo n hi = false) : ¬ (lo ≤ n ∧ n ≤ hi) := by
  intro k
  rw [show btw lo n hi = true by simp [btw, k.1, k.2]] at h
  cases h
def lnok (z : Int) (l : Ln) : Bool := btw 0 l.f (z - 1) && btw 0 l.t (z - 1) && decide (l.f ≠ l.t) && btw 0 l.c 1000
/-- Which grids may be. -/
def gok (g : Gr) : Bool := btw 1 g.zones 3 && btw 1 g.hours 3 && (btw (-100000) g.low g.high && decide (g.high ≤ 100000)) && decide (g.lines.length ≤ 3) && g.lines.all (lnok g.zones)
theorem gok_iff {g : Gr} : gok g = true ↔ (1 ≤ g.zones ∧ g.zones ≤ 3) ∧ (1 ≤ g.hours ∧ g.hours ≤ 3) ∧ (-100000 ≤ g.low ∧ g.low ≤ g.high ∧ g.high ≤ 100000) ∧ g.lines.length ≤ 3 ∧ ∀ l ∈ g.lines, lnok g.zones l = true := by
  simp only [gok, btw, Bool.and_eq_true, decide_eq_true_eq, List.all_eq_true]
  constructor
  · rintro ⟨⟨⟨⟨h1, h2⟩, ⟨h3, h4⟩, h5⟩, h6⟩, h7⟩
    exact ⟨h1, h2, ⟨h3, h4, h5⟩, h6, h7⟩
  · rintro ⟨h1, h2, ⟨h3, h4, h5⟩, h6, h7⟩
    exact ⟨⟨⟨⟨h1, h2⟩, ⟨h3, h4⟩, h5⟩, h6⟩, h7⟩
def errG (g : Gr) : Int := if gok g = true then 0 else 140
/-- Lines in memory. -/
def Lns (w : World) (v : Value) (S : List Ln) : Prop :=
  ∃ a c, v = .slice a S.length c ∧ S.length ≤ c ∧ c ≤ maxLen ∧ (S = [] ∨ ∃ b off, a = some ⟨b, off, none⟩ ∧ ∀ i (h : i < S.length), w.cell? ⟨b, off + i * 3, none⟩ = some (.int .i64 S[i].f) ∧ w.cell? ⟨b, off + i * 3 + 1, none⟩ = some (.int .i64 S[i].t) ∧ w.cell? ⟨b, off + i * 3 + 2, none⟩ = some (.int .i64 S[i].c))
theorem Lns.below {w w' : World} {v : Value} {S : List Ln} (h : Lns w v S) (k : Below w.heap.size w w') : Lns w' v S := by
  obtain ⟨a, c, h1, h2, h3, h4⟩ := h
  refine ⟨a, c, h1, h2, h3, ?_⟩
  rcases h4 with h4 | ⟨b, off, h4, h5⟩
  · exact Or.inl h4
  · refine Or.inr ⟨b, off, h4, fun i hi => ?_⟩
    obtain ⟨q0, q1, q2⟩ := h5 i hi
    exact ⟨(k.cell (World.block_lt_of_cell? w _ q0)).trans q0, (k.cell (World.block_lt_of_cell? w _ q1)).trans q1, (k.cell (World.block_lt_of_cell? w _ q2)).trans q2⟩
theorem Lns.slice {w : World} {v : Value} {S : List Ln} (h : Lns w v S) : ∃ a c, v = .slice a S.length c ∧ S.length ≤ c ∧ c ≤ maxLen := by
  obtain ⟨a, c, h1, h2, h3, _⟩ := h
  exact ⟨a, c, h1, h2, h3⟩
theorem Lns.at {w : World} {v : Value} {S : List Ln} (h : Lns w v S) (i : Nat) (hi : i < S.length) : ∃ b off c, v = .slice (some ⟨b, off, none⟩) S.length c ∧ S.length ≤ c ∧ c ≤ maxLen ∧ w.cell? ⟨b, off + i * 3, none⟩ = some (.int .i64 S[i].f) ∧ w.cell? ⟨b, off + i * 3 + 1, none⟩ = some (.int .i64 S[i].t) ∧ w.cell? ⟨b, off + i * 3 + 2, none⟩ = some (.int .i64 S[i].c) := by
  obtain ⟨a, c, h1, h2, h3, h4⟩ := h
  rcases h4 with h4 | ⟨b, off, h4, h5⟩
  · rw [h4] at hi; simp at hi
  · exact ⟨b, off, c, by rw [h1, h4], h2, h3, h5 i hi⟩
theorem ibx {w : World} {b : Nat} {C : Array Value} {t : TypeId} {fz : Nat × Nat} (h : w.heap[b]? = some (.cells C t fz)) (k : Nat) (v : Value) (hk : C[k]? = some v) : w.cell? ⟨b, k, none⟩ = some v := by
  rw [cell_of_row _ _ k _ _ _ h]; simpa using hk
theorem ikc {W X : World} {p : Addr} {a : Value} (h : Below W.heap.size W X) (h1 : W.cell? p = some a) : X.cell? p = some a := (h.cell (World.block_lt_of_cell? W _ h1)).trans h1
theorem inew (w : World) (o : Obj) : (w.alloc o).heap[w.heap.size]? = some o := by
  show (w.heap.push o)[w.heap.size]? = _
  simp
theorem ibel (w : World) (o : Obj) : Below w.heap.size w (w.alloc o) := (Below.refl _ _).alloc (Nat.le_refl _) o
end Go.Proofs.YtcdkoadobdgbhaaGreatDoor
/- result: blocks in memory; which may be accepted together. -/
namespace Go.Proofs.YtcdkoadobdgbhaaGreatDoor
open Go.RowKit
set_option linter.unusedVariables false
set_option maxRecDepth 100000
set_option linter.unusedSimpArgs false

def In64 (x : Int) : Prop := -9223372036854775808 ≤ x ∧ x < 9223372036854775808
/-- A block. -/
structure Bl where
  who : ByteArray
  seq : Int
  zone : Int
  buy : Bool
  price : Int
  qa : Option Addr
  qc : Nat
  qty : List Int
  parent : Int
  group : Int
def blV (s : Bl) : List Value := [.string s.who, .int .i64 s.seq, .int .i64 s.zone, .bool s.buy, .int .i64 s.price, .slice s.qa s.qty.length s.qc, .int .i64 s.parent, .int .i64 s.group]
/-- Eight cells of a block. -/
def BlAt (w : World) (b o : Nat) (s : Bl) : Prop :=
  w.cell? ⟨b, o, none⟩ = some (.string s.who) ∧ w.cell? ⟨b, o + 1, none⟩ = some (.int .i64 s.seq) ∧ w.cell? ⟨b, o + 2, none⟩ = some (.int .i64 s.zone) ∧ w.cell? ⟨b, o + 3, none⟩ = some (.bool s.buy) ∧ w.cell? ⟨b, o + 4, none⟩ = some (.int .i64 s.price) ∧ w.cell? ⟨b, o + 5, none⟩ = some (.slice s.qa s.qty.length s.qc) ∧ w.cell? ⟨b, o + 6, none⟩ = some (.int .i64 s.parent) ∧ w.cell? ⟨b, o + 7, none⟩ = some (.int .i64 s.group)
/-- Its numbers are ones. -/
structure BlFit (s : Bl) : Prop where
  who : s.who.size ≤ maxLen
  seq : In64 s.seq
  parent : In64 s.parent
  group : In64 s.group
theorem BlAt.below {w w' : World} {b o : Nat} {s : Bl} (h : BlAt w b o s) (k : Below w.heap.size w w') : BlAt w' b o s := by
  obtain ⟨h0, h1, h2, h3, h4, h5, h6, h7⟩ := h
  exact ⟨ikc k h0, ikc k h1, ikc k h2, ikc k h3, ikc k h4, ikc k h5, ikc k h6, ikc k h7⟩
/-- Blocks that came in, or were laid. -/
def Bks (w : World) (v : Value) (S : List Bl) : Prop :=
  ∃ a c, v = .slice a S.length c ∧ S.length ≤ c ∧ c ≤ maxLen ∧ (S = [] ∨ ∃ b off, a = some ⟨b, off, none⟩ ∧ ∀ i (h : i < S.length), BlAt w b (off + i * 8) S[i] ∧ BlFit S[i] ∧ Ints w (.slice S[i].qa S[i].qty.length S[i].qc) S[i].qty)
theorem Bks.below {w w' : World} {v : Value} {S : List Bl} (h : Bks w v S) (k : Below w.heap.size w w') : Bks w' v S := by
  obtain ⟨a, c, h1, h2, h3, h4⟩ := h
  refine ⟨a, c, h1, h2, h3, ?_⟩
  rcases h4 with h4 | ⟨b, off, h4, h5⟩
  · exact Or.inl h4
  · exact Or.inr ⟨b, off, h4, fun i hi => ⟨(h5 i hi).1.below k, (h5 i hi).2.1, (h5 i hi).2.2.below k⟩⟩
theorem Bks.slice {w : World} {v : Value} {S : List Bl} (h : Bks w v S) : ∃ a c, v = .slice a S.length c ∧ S.length ≤ c ∧ c ≤ maxLen := by
  obtain ⟨a, c, h1, h2, h3, _⟩ := h
  exact ⟨a, c, h1, h2, h3⟩
theorem Bks.at {w : World} {v : Value} {S : List Bl} (h : Bks w v S) (i : Nat) (hi : i < S.length) : ∃ b off c, v = .slice (some ⟨b, off, none⟩) S.length c ∧ BlAt w b (off + i * 8) S[i] ∧ BlFit S[i] := by
  obtain ⟨a, c, h1, h2, h3, h4⟩ := h
  rcases h4 with rfl | ⟨b, off, rfl, h5⟩
  · simp at hi
  · exact ⟨b, off, c, h1, (h5 i hi).1, (h5 i hi).2.1⟩
/-- A slice of bools. -/
def bolV (L : List Bool) : List Value := L.map Value.bool
theorem bolV_len (L : List Bool) : (bolV L).length = L.length := by simp [bolV]
theorem bolV_at (L : List Bool) (i : Nat) (h : i < L.length) : (bolV L)[i]'(by rw [bolV_len]; exact h) = .bool L[i] := by simp [bolV]
def Bols (w : World) (v : Value) (L : List Bool) : Prop := Row1 w v (bolV L)
theorem Bols.below {w w' : World} {v : Value} {L : List Bool} (h : Bols w v L) (k : Below w.heap.size w w') : Bols w' v L := Row1.below h k
theorem Bols.slice {w : World} {v : Value} {L : List Bool} (h : Bols w v L) : ∃ a c, v = .slice a L.length c ∧ L.length ≤ c ∧ c ≤ maxLen := by
  have := Row1.slice h
  rwa [bolV_len] at this
theorem Bols.at {w : World} {v : Value} {L : List Bool} (h : Bols w v L) (i : Nat) (hi : i < L.length) : ∃ b off c, v = .slice (some ⟨b, off, none⟩) L.length c ∧ w.cell? ⟨b, off + i, none⟩ = some (.bool L[i]) := by
  obtain ⟨b, off, c, h1, h2, h3, h4⟩ := Row1.at h i (by rw [bolV_len]; exact hi)
  rw [bolV_at L i hi] at h4
  rw [bolV_len] at h1 h2
  exact ⟨b, off, c, h1, h4⟩
/-- What Linked asks of one that is accepted. -/
def lkd (S : List Bl) (A : List Bool) (b : Bl) (i : Nat) : Prop :=
  (b.parent ≤ 0 ∨ ∃ k, ∃ h : k < S.length, A[k]? = some true ∧ S[k].who = b.who ∧ S[k].seq = b.parent) ∧
  ∀ k, ∀ h : k < S.length, k ≠ i → A[k]? = some true → S[k].who = b.who → 0 < b.group → S[k].group ≠ b.group
/-- Which blocks may be accepted together. -/
def Lnk (S : List Bl) (A : List Bool) : Prop := A.length = S.length ∧ ∀ i, ∀ h : i < S.length, A[i]? = some true → lkd S A S[i] i
def LnR (S : List Bl) (A : List Bool) (R : Bool) : Prop := R = true ↔ Lnk S A
theorem LnR.uniq {S : List Bl} {A : List Bool} {R Q : Bool} (h : LnR S A R) (k : LnR S A Q) : R = Q := by
  have : R = true ↔ Q = true := h.trans k.symm
  cases R <;> cases Q <;> simp_all
end Go.Proofs.YtcdkoadobdgbhaaGreatDoor
