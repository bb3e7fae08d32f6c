/- result: rows of bools of one's own; one block more or fewer. -/
import Derived.Test.YthhfphcneniniaaS16H
import Derived.Laws.OwnMore
import Derived.Maps.AppendAt
namespace Go.Proofs.Ythhfphcneniniaa
open Go.RowKit
set_option linter.unusedVariables false
set_option maxRecDepth 100000
set_option linter.unusedSimpArgs false

theorem info_bool : (Try.prog.info? 4).map (fun i => (i.zero, i.size, i.bytes)) = some (some (.bool false), 1, 1) := by kernel_rfl
theorem bparts {o : Option TypeInfo} {z : Value} {s b : Nat} (h : o.map (fun i => (i.zero, i.size, i.bytes)) = some (some z, s, b)) : ∃ i, o = some i ∧ i.zero = some z ∧ i.size = s ∧ i.bytes = b := by
  cases o with
  | none => cases h
  | some i =>
    simp only [Option.map_some, Option.some.injEq, Prod.mk.injEq] at h
    exact ⟨i, rfl, h.1, h.2.1, h.2.2⟩
/-- A row of bools of one's own. -/
def BO (w : World) (base : Nat) (v : Value) (L : List Bool) : Prop := w.ownsRow base 4 1 v L.length (bolV L)
theorem BO.form {w : World} {base : Nat} {v : Value} {L : List Bool} (h : BO w base v L) (hn : 0 < L.length) : ∃ g c, v = .slice (some ⟨g, 0, none⟩) L.length c ∧ base ≤ g ∧ g < w.heap.size ∧ L.length ≤ c ∧ c ≤ maxLen := by
  rcases h.2 with ⟨e0, hz⟩ | ⟨g, cap, cur, e0, hb, hh, q1, q2, _⟩
  · omega
  · exact ⟨g, cap, e0, hb, lt_of_block hh, q1, q2⟩
theorem BO.bols {w : World} {base : Nat} {v : Value} {L : List Bool} (h : BO w base v L) : Bols w v L := by
  have h' : w.ownsRow base 4 1 v (bolV L).length (bolV L) := by rw [bolV_len]; exact h
  exact Row1.of_own h'
theorem BO.below {w w' : World} {base : Nat} {v : Value} {L : List Bool} (h : BO w base v L) (b : Below w.heap.size w w') : BO w' base v L := own_below h b
theorem bolV_set (L : List Bool) (i : Nat) (x : Bool) : (bolV L).set i (.bool x) = bolV (L.set i x) := by simp [bolV]
theorem BO.put {w : World} {base g n c : Nat} {L : List Bool} (h : BO w base (.slice (some ⟨g, 0, none⟩) n c) L) (hl : L.length = n) (i : Nat) (hi : i < n) (x : Bool) :
    (∃ u, w.cell? ⟨g, i, none⟩ = some (.bool u)) ∧ w.frozen? ⟨g, i, none⟩ = false ∧ BO (w.setCell ⟨g, i, none⟩ (.bool x)) base (.slice (some ⟨g, 0, none⟩) n c) (L.set i x) := by
  have h' : w.ownsRow base 4 1 (.slice (some ⟨g, 0, none⟩) n c) n (bolV L) := by have := h; unfold BO at this; rw [hl] at this; exact this
  refine ⟨⟨L[i]'(by omega), ?_⟩, h'.frozenAt i, ?_⟩
  · rw [h'.cellAt i (by omega)]
    rw [List.getElem?_eq_getElem (by rw [bolV_len]; omega), bolV_at L i (by omega)]
  · have := (h'.stored i (.bool x)).1
    rw [bolV_set] at this
    unfold BO
    rw [List.length_set, hl]
    exact this
theorem bmade (n : Nat) : madeCells (Value.cells (.bool false)) (n * 1) = (bolV (List.replicate n false)).toArray := by
  apply Array.toList_inj.1
  have : (madeCells (Value.cells (.bool false)) (n * 1)).toList = List.replicate (n * 1) (Value.bool false) := toList_madeCells_one _ _
  rw [this]
  simp [bolV]
theorem bmake (n : Nat) (hn : n ≤ 1000) (V : World) : (Instr.makeSlice 23 (.int .i64 (n : Int)) (.int .i64 (n : Int))).run Try.prog V = .ok (.slice (some ⟨V.heap.size, 0, none⟩) n n) (V.alloc (.cells (bolV (List.replicate n false)).toArray 4)) := by
  obtain ⟨i0, hi0, hz0, hz1, hz2⟩ := bparts info_bool
  have := run_make (P := Try.prog) (w := V) 23 4 i0 (.bool false) Try.underlying23 hi0 hz0 .i64 .i64 (n : Int) (n : Int) (by omega) (by omega) (by rw [hz2]; omega) (by omega)
  rw [hz1] at this
  simp only [Int.toNat_natCast] at this
  rw [bmade] at this
  exact this
theorem bmade_bo (V : World) (base n : Nat) (hb : base ≤ V.heap.size) (hn : n ≤ 1000) : BO (V.alloc (.cells (bolV (List.replicate n false)).toArray 4)) base (.slice (some ⟨V.heap.size, 0, none⟩) n n) (List.replicate n false) := by
  have := World.ownsRow_lit (e := 4) (size := 1) V (bolV (List.replicate n false)).toArray n hb (by unfold maxLen; omega) (by simp [bolV])
  unfold BO
  rw [List.length_replicate]
  simpa using this
theorem lnk_none (S : List Bl) : Lnk S (List.replicate S.length false) := ⟨by simp, fun i hi h => by
  rw [List.getElem?_replicate] at h
  split at h
  · simp at h
  · cases h⟩
/-- One block more. -/
theorem lnk_more {S : List Bl} {A : List Bool} {k : Nat} (hk : k < S.length) (hl : A.length = S.length) (h0 : Lnk S (A.set k false)) : Lnk S (A.set k true) ↔ lkd S (A.set k true) S[k] k := by
  have hkA : k < A.length := by omega
  have up : ∀ j, (A.set k false)[j]? = some true → (A.set k true)[j]? = some true := fun j h => by
    rw [List.getElem?_set] at h ⊢
    split
    · rename_i e; exfalso; rw [if_pos e] at h; revert h; split <;> simp
    · rename_i e; rw [if_neg e] at h; exact h
  have dn : ∀ j, j ≠ k → (A.set k true)[j]? = some true → (A.set k false)[j]? = some true := fun j hj h => by
    rw [List.getElem?_set_ne (fun e => hj e.symm)] at h ⊢
    exact h
  have hat : (A.set k true)[k]? = some true := by rw [List.getElem?_set_self hkA]
  constructor
  · intro h
    exact h.2 k hk hat
  · intro h
    refine ⟨by simp [hl], fun i hi hA => ?_⟩
    by_cases hik : i = k
    · subst hik
      exact h
    · have h1 := h0.2 i hi (dn i hik hA)
      refine ⟨?_, fun j hj hji hAj hw hg => ?_⟩
      · rcases h1.1 with h2 | ⟨j, hj, h2, h3⟩
        · exact Or.inl h2
        · exact Or.inr ⟨j, hj, up j h2, h3⟩
      · by_cases hjk : j = k
        · subst hjk
          intro e
          exact h.2 i hi hik hA hw.symm (by omega) e.symm
        · exact h1.2 j hj hji (dn j hjk hAj) hw hg
/-- The law's own loop at q. -/
def Inl (S : List Bl) (A : List Bool) (b : Bl) (k q : Nat) (m al : Bool) : Prop :=
  (m = true ↔ (b.parent ≤ 0 ∨ ∃ j, ∃ h : j < S.length, j < q ∧ A[j]? = some true ∧ S[j].who = b.who ∧ S[j].seq = b.parent)) ∧
  (al = true ↔ ∀ j, ∀ h : j < S.length, j < q → j ≠ k → A[j]? = some true → S[j].who = b.who → 0 < b.group → S[j].group ≠ b.group)
theorem Inl.start (S : List Bl) (A : List Bool) (b : Bl) (k : Nat) : Inl S A b k 0 (decide (b.parent ≤ 0)) true :=
  ⟨by simp, fun _ j _ h => absurd h (Nat.not_lt_zero _), fun _ => rfl⟩
theorem Inl.step {S : List Bl} {A : List Bool} {b : Bl} {k q : Nat} {m al m' al' : Bool} (h : Inl S A b k q m al) (hq : q < S.length)
    (hm : m' = true ↔ (m = true ∨ (A[q]? = some true ∧ S[q].who = b.who ∧ S[q].seq = b.parent))) (hg : al' = true ↔ (al = true ∧ (q ≠ k → A[q]? = some true → S[q].who = b.who → 0 < b.group → S[q].group ≠ b.group))) : Inl S A b k (q + 1) m' al' := by
  refine ⟨hm.trans ⟨?_, ?_⟩, hg.trans ⟨?_, ?_⟩⟩
  · rintro (h1 | h1)
    · rcases h.1.1 h1 with h2 | ⟨j, hj, h2, h3⟩
      · exact Or.inl h2
      · exact Or.inr ⟨j, hj, by omega, h3⟩
    · exact Or.inr ⟨q, hq, by omega, h1⟩
  · rintro (h1 | ⟨j, hj, h2, h3⟩)
    · exact Or.inl (h.1.2 (Or.inl h1))
    · by_cases hjq : j = q
      · subst hjq
        exact Or.inr h3
      · exact Or.inl (h.1.2 (Or.inr ⟨j, hj, by omega, h3⟩))
  · rintro ⟨h1, h2⟩ j hj hjq hne hA hw hgg
    by_cases hjq2 : j = q
    · subst hjq2
      exact h2 hne hA hw hgg
    · exact h.2.1 h1 j hj (by omega) hne hA hw hgg
  · intro h1
    exact ⟨h.2.2 fun j hj hjq hne hA hw hg => h1 j hj (by omega) hne hA hw hg, fun hne hA hw hg => h1 q hq (by omega) hne hA hw hg⟩
theorem Inl.last {S : List Bl} {A : List Bool} {b : Bl} {k : Nat} {m al : Bool} (h : Inl S A b k S.length m al) : lkd S A b k ↔ (m && al) = true := by
  rw [Bool.and_eq_true, h.1, h.2]
  unfold lkd
  constructor
  · rintro ⟨h1, h2⟩
    refine ⟨?_, fun j hj _ => h2 j hj⟩
    rcases h1 with h1 | ⟨j, hj, h3⟩
    · exact Or.inl h1
    · exact Or.inr ⟨j, hj, hj, h3⟩
  · rintro ⟨h1, h2⟩
    refine ⟨?_, fun j hj => h2 j hj hj⟩
    rcases h1 with h1 | ⟨j, hj, _, h3⟩
    · exact Or.inl h1
    · exact Or.inr ⟨j, hj, h3⟩
end Go.Proofs.Ythhfphcneniniaa
