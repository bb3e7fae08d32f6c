/- UPivS, UColM, UColN. -/
import Derived.Test.YtgojlegknlalpaaGreatDoorZUPiv
import Derived.Test.YtgojlegknlalpaaGreatDoorPk41
import Derived.Test.YtgojlegknlalpaaGreatDoorPk36
/- tableau: Pivot, whatever it is asked. -/
namespace Go.Proofs.YtgojlegknlalpaaGreatDoor
open Go.RowKit
set_option linter.unusedVariables false
set_option maxRecDepth 100000
set_option linter.unusedSimpArgs false

/-- What a pivot answers, and the rows behind it. -/
def PivS (A : List URw) (r c n : Int) (A' : List URw) : Prop :=
  (uhs A r c = false ∧ n = 1 ∧ A' = A) ∨
  (∃ (i k : Nat) (hi : i < A.length), k < ucols A ∧ r = (i : Int) ∧ c = (k : Int) ∧ (A[i]).1.getD k 0 = 0 ∧ n = 12 ∧ A' = A) ∨
  (∃ (i k : Nat) (hi : i < A.length), k < ucols A ∧ r = (i : Int) ∧ c = (k : Int) ∧ (A[i]).1.getD k 0 ≠ 0 ∧ n = 0 ∧ A' = pivA A i k)
theorem UTn.mono {w : World} {base tb : Nat} {A : List URw} {K K' : Nat} (h : UTn w base tb A K) (hk : K ≤ K') : UTn w base tb A K' := by
  obtain ⟨ra, rc, C, h1, h2⟩ := h
  exact ⟨ra, rc, C, h1, h2.mono hk⟩
theorem Bg.below {g base : Nat} {w w' : World} (h : Bg g w w') (hb : base ≤ g) (hw : base ≤ w.heap.size) : Below base w w' :=
  ⟨h.os, h.tape, h.output, h.size, fun k hk => h.block k (by omega) (by omega)⟩
theorem uPivotS_any (w : World) (base tb : Nat) (A : List URw) (m K K2 : Nat) (hKm : K = m / 9 + 1) (hm : 18 ≤ m) (hK2 : K2 = (2 * m + 1) / 9 + 1) (hK : K2 ≤ 200000) (h : UTn w base tb A K) (hb : base ≤ w.heap.size) (hI : PInv A (ucols A) m) (hcl : ucols A ≤ 192) (hA : A.length ≤ 64) (r c : Int) :
    Calls Tryz.prog 14 #[.pointer (some ⟨tb, 0, none⟩), .int .i64 r, .int .i64 c] w fun e w' => ∃ n A', e = .returned (.int .i64 n) ∧ PivS A r c n A' ∧ UTn w' base tb A' K2 ∧ Below base w w' := by
  have hKK : K ≤ K2 := by omega
  cases hu : uhs A r c with
  | false =>
    refine (uPivot_none w tb A K (by omega) h.tb r c hu).mono ?_
    rintro e w' ⟨rfl, rfl⟩
    exact ⟨1, A, rfl, Or.inl ⟨hu, rfl, rfl⟩, h.mono hKK, Below.refl _ _⟩
  | true =>
    have hq : 0 ≤ r ∧ r < (A.length : Int) ∧ 0 ≤ c ∧ c < (ucols A : Int) := by
      unfold uhs at hu
      simp only [Bool.and_eq_true, decide_eq_true_eq] at hu
      exact ⟨hu.1.1.1, hu.1.1.2, hu.1.2, hu.2⟩
    obtain ⟨i, rfl⟩ : ∃ i : Nat, r = i := ⟨r.toNat, by omega⟩
    obtain ⟨k, rfl⟩ : ∃ k : Nat, c = k := ⟨c.toNat, by omega⟩
    have hi : i < A.length := by omega
    have hk : k < ucols A := by omega
    have hkl : k < (A[i]).1.length := by rw [hI.len _ (List.getElem_mem hi)]; exact hk
    by_cases h0 : (A[i]).1.getD k 0 = 0
    · refine (uPivot_zero w tb A K (by omega) h.tb hI.len hcl hA i k hi hkl (by rw [← getD_at hkl]; exact h0)).mono ?_
      rintro e w' ⟨rfl, b⟩
      exact ⟨12, A, rfl, Or.inr (Or.inl ⟨i, k, hi, hk, rfl, rfl, h0, rfl, rfl⟩), (h.below b).mono hKK, b.mono hb⟩
    · obtain ⟨ra, rc, C, h1, h2⟩ := h
      obtain ⟨g, hg, hgb⟩ : ∃ g, ra = some ⟨g, 0, none⟩ ∧ base ≤ g := by
        rcases h2.own.2 with ⟨_, e⟩ | ⟨g, cap, cur, e, hb, _⟩
        · omega
        · simp only [Value.slice.injEq] at e
          exact ⟨g, e.1, hb⟩
      subst hg
      refine (uPivot_yes w tb g rc base C A m K K2 hKm hm hK2 hK h1 h2 hI.len hcl hA i k hi hk h0 hI.abs).mono ?_
      rintro e w' ⟨rfl, ⟨C', h3⟩, bg⟩
      obtain ⟨gc, hgc⟩ := h2.cells
      have hne : tb ≠ g := fun e => by subst e; rw [h1] at hgc; simp at hgc
      have h4 := bg.box h1 hne
      refine ⟨0, pivA A i k, rfl, Or.inr (Or.inr ⟨i, k, hi, hk, rfl, rfl, h0, rfl, rfl⟩), ⟨some ⟨g, 0, none⟩, rc, C', by rw [pivA_len]; exact h4, by rw [pivA_len]; exact h3⟩, bg.below hgb hb⟩
end Go.Proofs.YtgojlegknlalpaaGreatDoor
/- TableauColumn: plain parts. -/
namespace Go.Proofs.YtgojlegknlalpaaGreatDoor
open Go.RowKit
set_option linter.unusedVariables false
set_option linter.unusedSimpArgs false

/-- How many digits, behind so many pivots. -/
def mm : Nat → Nat
  | 0 => 19
  | k + 1 => 2 * mm k + 1
theorem mm_ge : ∀ k, 18 ≤ mm k
  | 0 => by decide
  | k + 1 => by have := mm_ge k; simp only [mm]; omega
theorem mm_mono (k : Nat) : ∀ j, mm k ≤ mm (k + j)
  | 0 => Nat.le_refl _
  | j + 1 => by
    have := mm_mono k j
    show mm k ≤ 2 * mm (k + j) + 1
    omega
theorem mm_le {k : Nat} (h : k ≤ 16) : mm k / 9 + 1 ≤ 200000 := by
  have h1 := mm_mono k (16 - k)
  rw [show k + (16 - k) = 16 by omega] at h1
  have h2 : mm 16 = 1310719 := by decide
  omega
theorem pinv_mono {A : List URw} {c m m' : Nat} (h : PInv A c m) (k : m ≤ m') : PInv A c m' :=
  ⟨h.len, h.pos, fun a ha => ⟨fun t ht => Nat.lt_of_lt_of_le ((h.abs a ha).1 t ht) (Nat.pow_le_pow_right (by decide) k), Nat.lt_of_lt_of_le (h.abs a ha).2 (Nat.pow_le_pow_right (by decide) k)⟩⟩
theorem ucols_of {A : List URw} {c m : Nat} (h : PInv A c m) (h0 : 0 < A.length) : ucols A = c := by
  rw [ucols_pos h0]
  exact h.len _ (List.getElem_mem h0)
theorem ucols_piv {A : List URw} {i k c m : Nat} (h : PInv A c m) (hi : i < A.length) (hk : k < c) (hne : (A[i]).1.getD k 0 ≠ 0) : ucols (pivA A i k) = ucols A := by
  have h0 : 0 < A.length := by omega
  rw [ucols_of (pivA_inv h hi hk hne) (by rw [pivA_len]; exact h0), ucols_of h h0]
/-- What a pivot keeps: width, how many rows, and the invariant. -/
theorem pivS_keeps {A A' : List URw} {r c n : Int} {m : Nat} (h : PInv A (ucols A) m) (hp : PivS A r c n A') : A'.length = A.length ∧ ucols A' = ucols A ∧ PInv A' (ucols A') (2 * m + 1) := by
  rcases hp with ⟨_, _, rfl⟩ | ⟨_, _, _, _, _, _, _, _, rfl⟩ | ⟨i, k, hi, hk, rfl, rfl, hne, _, rfl⟩
  · exact ⟨rfl, rfl, pinv_mono h (by omega)⟩
  · exact ⟨rfl, rfl, pinv_mono h (by omega)⟩
  · have hc := ucols_piv h hi hk hne
    exact ⟨pivA_len _ _ _, hc, by rw [hc]; exact pivA_inv h hi hk hne⟩
theorem nought_div (q : Rat) : ((0 : Int) : Rat) / q = 0 := by
  rw [Rat.div_def]
  simp
/-- The text that At told ahead of a pivot, and what the pivot answered. -/
theorem pivS_at {A A' : List URw} {r c n : Int} {m : Nat} {s : ByteArray} (h : PInv A (ucols A) m) (hp : PivS A r c n A') (hs : UAtP A r c s) :
    (n = 1 ∧ s = ByteArray.empty ∧ A' = A) ∨ (n = 12 ∧ s = ⟨#[48]⟩ ∧ A' = A) ∨ (n = 0 ∧ s ≠ ByteArray.empty ∧ s ≠ ⟨#[48]⟩ ∧ ∃ (i k : Nat) (hi : i < A.length), k < ucols A ∧ r = (i : Int) ∧ c = (k : Int) ∧ (A[i]).1.getD k 0 ≠ 0 ∧ A' = pivA A i k) := by
  have both : ∀ (i k : Nat) (hi : i < A.length), k < ucols A → r = (i : Int) → c = (k : Int) → TxR s (vl A[i] k) := fun i k hi hk hr hc => by
    rcases hs with ⟨hu, _⟩ | ⟨i', k', hi', hk', hr', hc', ht⟩
    · exfalso
      subst hr hc
      unfold uhs at hu
      simp at hu
      omega
    · obtain rfl : i = i' := by omega
      obtain rfl : k = k' := by omega
      unfold vl
      rw [getD_at hk']
      exact ht
  rcases hp with ⟨hu, rfl, rfl⟩ | ⟨i, k, hi, hk, hr, hc, h0, rfl, rfl⟩ | ⟨i, k, hi, hk, hr, hc, hne, rfl, rfl⟩
  · refine Or.inl ⟨rfl, ?_, rfl⟩
    rcases hs with ⟨_, e⟩ | ⟨i', k', hi', hk', hr', hc', ht⟩
    · exact e
    · exfalso
      subst hr' hc'
      have hl := h.len _ (List.getElem_mem hi')
      unfold uhs at hu
      simp at hu
      omega
  · refine Or.inr (Or.inl ⟨rfl, ?_, rfl⟩)
    have ht := both i k hi hk hr hc
    unfold vl at ht
    rw [h0] at ht
    rw [nought_div] at ht
    exact TxR.inj ht txr_zero
  · have ht := both i k hi hk hr hc
    have hb : (((A[i]).2.1 : Int) : Rat) ≠ 0 := int_ne (h.pos _ (List.getElem_mem hi))
    have hn : (((A[i]).1.getD k 0 : Int) : Rat) ≠ 0 := fun q => hne (by exact_mod_cast q)
    refine Or.inr (Or.inr ⟨rfl, fun e => ?_, fun e => ?_, i, k, hi, hk, hr, hc, hne, rfl⟩)
    · subst e; exact txr_empty ht
    · subst e
      have := txr_eq0 ht
      unfold vl at this
      grind
theorem uzip_inv {M : List (List Int)} {B : List Int} (h : unw M B = 0) : PInv (uzip M B) (ucols (uzip M B)) 19 := by
  obtain ⟨u1, _, _, _, _, _⟩ := uzip_ok h
  obtain ⟨h1, _, _, h4⟩ := unw_ok h
  have row : ∀ a ∈ uzip M B, a.1 ∈ M ∧ a.2.1 = 1 := fun a ha => by
    unfold uzip at ha
    obtain ⟨x, hx, rfl⟩ := List.mem_map.1 ha
    exact ⟨(List.of_mem_zip hx).1, rfl⟩
  refine ⟨u1, fun a ha => by rw [(row a ha).2]; decide, fun a ha => ⟨fun t ht => ?_, by rw [(row a ha).2]; decide⟩⟩
  have := (h4 _ (row a ha).1).2 t ht
  show t.natAbs < 10000000000000000000
  omega
theorem txr_one' : TxR ⟨#[49]⟩ 1 := Or.inl ⟨rfl, ztx_one⟩
end Go.Proofs.YtgojlegknlalpaaGreatDoor
/- TableauColumn: what At and Basis tell behind a pivot. -/
namespace Go.Proofs.YtgojlegknlalpaaGreatDoor
open Go.RowKit
set_option linter.unusedVariables false
set_option maxRecDepth 100000
set_option linter.unusedSimpArgs false

theorem uatp_at {A : List URw} {m i k : Nat} {s : ByteArray} (h : PInv A (ucols A) m) (hi : i < A.length) (hk : k < ucols A) (hs : UAtP A (i : Int) (k : Int) s) : TxR s (vl A[i] k) := by
  rcases hs with ⟨hu, _⟩ | ⟨i', k', hi', hk', hr', hc', ht⟩
  · exfalso
    unfold uhs at hu
    simp at hu
    omega
  · obtain rfl : i = i' := by omega
    obtain rfl : k = k' := by omega
    unfold vl
    rw [getD_at hk']
    exact ht
theorem col_txt {A : List URw} {i k m j : Nat} {s : ByteArray} (h : PInv A (ucols A) m) (hi : i < A.length) (hk : k < ucols A) (hne : (A[i]).1.getD k 0 ≠ 0) (hj : j < A.length) (hs : UAtP (pivA A i k) (j : Int) (k : Int) s) : s = if j = i then ⟨#[49]⟩ else ⟨#[48]⟩ := by
  have hc := ucols_piv h hi hk hne
  have h' : PInv (pivA A i k) (ucols (pivA A i k)) (2 * m + 1) := by rw [hc]; exact pivA_inv h hi hk hne
  have hj' : j < (pivA A i k).length := by rw [pivA_len]; exact hj
  have ht := uatp_at h' hj' (by rw [hc]; exact hk) hs
  rw [pivA_col h hi hj hk hne hj'] at ht
  by_cases e : j = i
  · rw [if_pos e] at ht ⊢
    exact TxR.inj ht txr_one'
  · rw [if_neg e] at ht ⊢
    exact TxR.inj ht txr_zero
theorem col_basis {A : List URw} {i k : Nat} (hi : i < A.length) (hp : i < ((pivA A i k).map (fun a => a.2.2)).length) : ((pivA A i k).map (fun a => a.2.2))[i] = (k : Int) := by
  rw [List.getElem_map, pivA_basis hi hi (by simpa using hp), if_pos rfl]
end Go.Proofs.YtgojlegknlalpaaGreatDoor
