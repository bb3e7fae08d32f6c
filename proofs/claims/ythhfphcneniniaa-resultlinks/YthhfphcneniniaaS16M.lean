/- result: blocks in memory; which may be accepted together. -/
import Derived.Test.YthhfphcneniniaaIBase
namespace Go.Proofs.Ythhfphcneniniaa
open Go.RowKit
set_option linter.unusedVariables false
set_option maxRecDepth 100000
set_option linter.unusedSimpArgs false

def In64 (x : Int) : Prop := -9223372036854775808 ≤ x ∧ x < 9223372036854775808
theorem In64.wf {x : Int} (h : In64 x) : (Lit.int .i64 x).wf = true := WalkArith.wf_i64 (by have := h.1; have := h.2; omega)
/-- A block. -/
structure Bl where
  who : ByteArray
  seq : Int
  zone : Int
  buy : Bool
  price : Int
  qa : Option Addr
  qc : Nat
  qty : List Int
  parent : Int
  group : Int
def blV (s : Bl) : List Value := [.string s.who, .int .i64 s.seq, .int .i64 s.zone, .bool s.buy, .int .i64 s.price, .slice s.qa s.qty.length s.qc, .int .i64 s.parent, .int .i64 s.group]
/-- Eight cells of a block. -/
def BlAt (w : World) (b o : Nat) (s : Bl) : Prop :=
  w.cell? ⟨b, o, none⟩ = some (.string s.who) ∧ w.cell? ⟨b, o + 1, none⟩ = some (.int .i64 s.seq) ∧ w.cell? ⟨b, o + 2, none⟩ = some (.int .i64 s.zone) ∧ w.cell? ⟨b, o + 3, none⟩ = some (.bool s.buy) ∧ w.cell? ⟨b, o + 4, none⟩ = some (.int .i64 s.price) ∧ w.cell? ⟨b, o + 5, none⟩ = some (.slice s.qa s.qty.length s.qc) ∧ w.cell? ⟨b, o + 6, none⟩ = some (.int .i64 s.parent) ∧ w.cell? ⟨b, o + 7, none⟩ = some (.int .i64 s.group)
/-- Its numbers are ones. -/
structure BlFit (s : Bl) : Prop where
  who : s.who.size ≤ maxLen
  seq : In64 s.seq
  parent : In64 s.parent
  group : In64 s.group
theorem BlAt.below {w w' : World} {b o : Nat} {s : Bl} (h : BlAt w b o s) (k : Below w.heap.size w w') : BlAt w' b o s := by
  obtain ⟨h0, h1, h2, h3, h4, h5, h6, h7⟩ := h
  exact ⟨ikc k h0, ikc k h1, ikc k h2, ikc k h3, ikc k h4, ikc k h5, ikc k h6, ikc k h7⟩
/-- Blocks that came in, or were laid. -/
def Bks (w : World) (v : Value) (S : List Bl) : Prop :=
  ∃ a c, v = .slice a S.length c ∧ S.length ≤ c ∧ c ≤ maxLen ∧ (S = [] ∨ ∃ b off, a = some ⟨b, off, none⟩ ∧ ∀ i (h : i < S.length), BlAt w b (off + i * 8) S[i] ∧ BlFit S[i] ∧ Ints w (.slice S[i].qa S[i].qty.length S[i].qc) S[i].qty)
theorem Bks.below {w w' : World} {v : Value} {S : List Bl} (h : Bks w v S) (k : Below w.heap.size w w') : Bks w' v S := by
  obtain ⟨a, c, h1, h2, h3, h4⟩ := h
  refine ⟨a, c, h1, h2, h3, ?_⟩
  rcases h4 with h4 | ⟨b, off, h4, h5⟩
  · exact Or.inl h4
  · exact Or.inr ⟨b, off, h4, fun i hi => ⟨(h5 i hi).1.below k, (h5 i hi).2.1, (h5 i hi).2.2.below k⟩⟩
theorem Bks.slice {w : World} {v : Value} {S : List Bl} (h : Bks w v S) : ∃ a c, v = .slice a S.length c ∧ S.length ≤ c ∧ c ≤ maxLen := by
  obtain ⟨a, c, h1, h2, h3, _⟩ := h
  exact ⟨a, c, h1, h2, h3⟩
theorem Bks.at {w : World} {v : Value} {S : List Bl} (h : Bks w v S) (i : Nat) (hi : i < S.length) : ∃ b off c, v = .slice (some ⟨b, off, none⟩) S.length c ∧ BlAt w b (off + i * 8) S[i] ∧ BlFit S[i] := by
  obtain ⟨a, c, h1, h2, h3, h4⟩ := h
  rcases h4 with rfl | ⟨b, off, rfl, h5⟩
  · simp at hi
  · exact ⟨b, off, c, h1, (h5 i hi).1, (h5 i hi).2.1⟩
/-- A slice of bools. -/
def bolV (L : List Bool) : List Value := L.map Value.bool
theorem bolV_len (L : List Bool) : (bolV L).length = L.length := by simp [bolV]
theorem bolV_at (L : List Bool) (i : Nat) (h : i < L.length) : (bolV L)[i]'(by rw [bolV_len]; exact h) = .bool L[i] := by simp [bolV]
def Bols (w : World) (v : Value) (L : List Bool) : Prop := Row1 w v (bolV L)
theorem Bols.below {w w' : World} {v : Value} {L : List Bool} (h : Bols w v L) (k : Below w.heap.size w w') : Bols w' v L := Row1.below h k
theorem Bols.slice {w : World} {v : Value} {L : List Bool} (h : Bols w v L) : ∃ a c, v = .slice a L.length c ∧ L.length ≤ c ∧ c ≤ maxLen := by
  have := Row1.slice h
  rwa [bolV_len] at this
theorem Bols.at {w : World} {v : Value} {L : List Bool} (h : Bols w v L) (i : Nat) (hi : i < L.length) : ∃ b off c, v = .slice (some ⟨b, off, none⟩) L.length c ∧ w.cell? ⟨b, off + i, none⟩ = some (.bool L[i]) := by
  obtain ⟨b, off, c, h1, h2, h3, h4⟩ := Row1.at h i (by rw [bolV_len]; exact hi)
  rw [bolV_at L i hi] at h4
  rw [bolV_len] at h1 h2
  exact ⟨b, off, c, h1, h4⟩
/-- What Linked asks of one that is accepted. -/
def lkd (S : List Bl) (A : List Bool) (b : Bl) (i : Nat) : Prop :=
  (b.parent ≤ 0 ∨ ∃ k, ∃ h : k < S.length, A[k]? = some true ∧ S[k].who = b.who ∧ S[k].seq = b.parent) ∧
  ∀ k, ∀ h : k < S.length, k ≠ i → A[k]? = some true → S[k].who = b.who → 0 < b.group → S[k].group ≠ b.group
/-- Which blocks may be accepted together. -/
def Lnk (S : List Bl) (A : List Bool) : Prop := A.length = S.length ∧ ∀ i, ∀ h : i < S.length, A[i]? = some true → lkd S A S[i] i
def LnR (S : List Bl) (A : List Bool) (R : Bool) : Prop := R = true ↔ Lnk S A
theorem LnR.uniq {S : List Bl} {A : List Bool} {R Q : Bool} (h : LnR S A R) (k : LnR S A Q) : R = Q := by
  have : R = true ↔ Q = true := h.trans k.symm
  cases R <;> cases Q <;> simp_all
/-- How many there are ahead of k. -/
def cntR (p : Nat → Bool) : Nat → Nat
  | 0 => 0
  | k + 1 => cntR p k + if p k = true then 1 else 0
theorem cntR_le (p : Nat → Bool) : ∀ k, cntR p k ≤ k
  | 0 => Nat.le_refl _
  | k + 1 => by
    have := cntR_le p k
    simp only [cntR]
    split <;> omega
theorem cntR_pos (p : Nat → Bool) : ∀ k, 0 < cntR p k ↔ ∃ i, i < k ∧ p i = true
  | 0 => by simp [cntR]
  | k + 1 => by
    have ih := cntR_pos p k
    simp only [cntR]
    constructor
    · intro h
      by_cases hp : p k = true
      · exact ⟨k, by omega, hp⟩
      · rw [if_neg hp] at h
        obtain ⟨i, hi, hpi⟩ := ih.1 (by omega)
        exact ⟨i, by omega, hpi⟩
    · rintro ⟨i, hi, hpi⟩
      by_cases hik : i = k
      · subst hik
        rw [if_pos hpi]; omega
      · have := ih.2 ⟨i, by omega, hpi⟩
        omega
theorem cntR_two (p : Nat → Bool) : ∀ k, 1 < cntR p k ↔ ∃ i j, i < j ∧ j < k ∧ p i = true ∧ p j = true
  | 0 => by simp [cntR]
  | k + 1 => by
    have ih := cntR_two p k
    have ip := cntR_pos p k
    simp only [cntR]
    constructor
    · intro h
      by_cases hp : p k = true
      · rw [if_pos hp] at h
        obtain ⟨i, hi, hpi⟩ := ip.1 (by omega)
        exact ⟨i, k, hi, by omega, hpi, hp⟩
      · rw [if_neg hp] at h
        obtain ⟨i, j, hij, hj, hpi, hpj⟩ := ih.1 (by omega)
        exact ⟨i, j, hij, by omega, hpi, hpj⟩
    · rintro ⟨i, j, hij, hj, hpi, hpj⟩
      by_cases hjk : j = k
      · subst hjk
        have := ip.2 ⟨i, hij, hpi⟩
        rw [if_pos hpj]; omega
      · have := ih.2 ⟨i, j, hij, by omega, hpi, hpj⟩
        omega
/-- Is block i accepted, and has it this name (its own, or its group's)? -/
def hasN (f : Bl → Int) (S : List Bl) (A : List Bool) (a : ByteArray) (s : Int) (i : Nat) : Bool :=
  match S[i]? with
  | none => false
  | some b => decide (A[i]? = some true) && (decide (b.who = a) && decide (f b = s))
theorem hasN_iff {f : Bl → Int} {S : List Bl} {A : List Bool} {a : ByteArray} {s : Int} {i : Nat} : hasN f S A a s i = true ↔ ∃ h : i < S.length, A[i]? = some true ∧ S[i].who = a ∧ f S[i] = s := by
  unfold hasN
  by_cases h : i < S.length
  · rw [List.getElem?_eq_getElem h]
    simp only [Bool.and_eq_true, decide_eq_true_eq]
    exact ⟨fun k => ⟨h, k⟩, fun ⟨_, k⟩ => k⟩
  · rw [List.getElem?_eq_none (by omega)]
    simp only [Bool.false_eq_true, false_iff]
    rintro ⟨h', _⟩
    exact h h'
/-- How many accepted ones ahead of k have the name. -/
def cntN (f : Bl → Int) (S : List Bl) (A : List Bool) (k : Nat) (a : ByteArray) (s : Int) : Int := ((cntR (hasN f S A a s) k : Nat) : Int)
theorem cntN_zero (f : Bl → Int) (S : List Bl) (A : List Bool) : cntN f S A 0 = fun _ _ => 0 := rfl
theorem cntN_no {f : Bl → Int} {S : List Bl} {A : List Bool} {k : Nat} (h : A[k]? ≠ some true) : cntN f S A (k + 1) = cntN f S A k := by
  funext a s
  unfold cntN
  simp only [cntR]
  rw [if_neg]
  · rfl
  · intro q
    obtain ⟨_, q1, _⟩ := hasN_iff.1 q
    exact h q1
theorem cntN_yes {f : Bl → Int} {S : List Bl} {A : List Bool} {k : Nat} (hk : k < S.length) (h : A[k]? = some true) (a' : ByteArray) (s' : Int) :
    cntN f S A (k + 1) a' s' = if a' = S[k].who ∧ s' = f S[k] then cntN f S A k S[k].who (f S[k]) + 1 else cntN f S A k a' s' := by
  unfold cntN
  simp only [cntR]
  by_cases hc : a' = S[k].who ∧ s' = f S[k]
  · obtain ⟨rfl, rfl⟩ := hc
    rw [if_pos (hasN_iff.2 ⟨hk, h, rfl, rfl⟩), if_pos ⟨rfl, rfl⟩]
    omega
  · rw [if_neg hc, if_neg]
    · rfl
    · intro q
      obtain ⟨_, _, q1, q2⟩ := hasN_iff.1 q
      exact hc ⟨q1.symm, q2.symm⟩
theorem cntN_upd {f : Bl → Int} {S : List Bl} {A : List Bool} {k : Nat} (hk : k < S.length) (h : A[k]? = some true) {g : ByteArray → Int → Int} (hg : ∀ a' s', g a' s' = if a' = S[k].who ∧ s' = f S[k] then cntN f S A k S[k].who (f S[k]) + 1 else cntN f S A k a' s') : g = cntN f S A (k + 1) := by
  funext a' s'
  rw [hg, cntN_yes hk h]
theorem cntN_le (f : Bl → Int) (S : List Bl) (A : List Bool) (k : Nat) (a : ByteArray) (s : Int) : 0 ≤ cntN f S A k a s ∧ cntN f S A k a s ≤ (k : Int) := by
  unfold cntN
  have := cntR_le (hasN f S A a s) k
  omega
/-- What the maps tell of one that is accepted. -/
theorem lkd_iff {S : List Bl} {A : List Bool} {i : Nat} (hi : i < S.length) (hA : A[i]? = some true) :
    lkd S A S[i] i ↔ ¬ (0 < S[i].parent ∧ cntN Bl.seq S A S.length S[i].who S[i].parent = 0) ∧ ¬ (0 < S[i].group ∧ 1 < cntN Bl.group S A S.length S[i].who S[i].group) := by
  have e1 : cntN Bl.seq S A S.length S[i].who S[i].parent = 0 ↔ ¬ ∃ k, k < S.length ∧ hasN Bl.seq S A S[i].who S[i].parent k = true := by
    rw [← cntR_pos]
    unfold cntN
    omega
  have e2 : 1 < cntN Bl.group S A S.length S[i].who S[i].group ↔ ∃ k j, k < j ∧ j < S.length ∧ hasN Bl.group S A S[i].who S[i].group k = true ∧ hasN Bl.group S A S[i].who S[i].group j = true := by
    rw [← cntR_two]
    unfold cntN
    omega
  rw [e1, e2]
  unfold lkd
  constructor
  · rintro ⟨h1, h2⟩
    refine ⟨?_, ?_⟩
    · rintro ⟨hp, hn⟩
      rcases h1 with h1 | ⟨k, hk, h3, h4, h5⟩
      · omega
      · exact hn ⟨k, hk, hasN_iff.2 ⟨hk, h3, h4, h5⟩⟩
    · rintro ⟨hp, k, j, hkj, hj, hk1, hj1⟩
      obtain ⟨k0, k1, k2, k3⟩ := hasN_iff.1 hk1
      obtain ⟨j0, j1, j2, j3⟩ := hasN_iff.1 hj1
      by_cases hki : k = i
      · exact h2 j hj (by omega) j1 j2 hp j3
      · exact h2 k k0 hki k1 k2 hp k3
  · rintro ⟨h1, h2⟩
    refine ⟨?_, fun k hk hne hAk hw hg he => h2 ⟨hg, ?_⟩⟩
    · by_cases hp : 0 < S[i].parent
      · refine Or.inr ?_
        refine Classical.byContradiction fun hc => h1 ⟨hp, ?_⟩
        rintro ⟨k, hk, hh⟩
        obtain ⟨k0, k1, k2, k3⟩ := hasN_iff.1 hh
        exact hc ⟨k, k0, k1, k2, k3⟩
      · exact Or.inl (by omega)
    · have hI := hasN_iff.2 ⟨hi, hA, (rfl : S[i].who = S[i].who), (rfl : Bl.group S[i] = S[i].group)⟩
      have hK := hasN_iff.2 ⟨hk, hAk, hw, he⟩
      by_cases hlt : k < i
      · exact ⟨k, i, hlt, hi, hK, hI⟩
      · exact ⟨i, k, by omega, hk, hI, hK⟩
end Go.Proofs.Ythhfphcneniniaa
