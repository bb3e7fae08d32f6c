/- TableauBack: a pivot of one of two tableaus. -/
import Derived.Test.YtgojlegknlalpaaGreatDoorPk43
namespace Go.Proofs.YtgojlegknlalpaaGreatDoor
open Go.RowKit
set_option linter.unusedVariables false
set_option maxRecDepth 100000
set_option linter.unusedSimpArgs false

def UTg (w : World) (base tb g : Nat) (A : List URw) (K : Nat) : Prop :=
  ∃ rc C, w.heap[tb]? = some (.cells #[.slice (some ⟨g, 0, none⟩) A.length rc] 51 (0, 0)) ∧ UBs w base (.slice (some ⟨g, 0, none⟩) A.length rc) C A K
theorem UTg.tn {w : World} {base tb g : Nat} {A : List URw} {K : Nat} (h : UTg w base tb g A K) : UTn w base tb A K := by
  obtain ⟨rc, C, h1, h2⟩ := h
  exact ⟨_, rc, C, h1, h2⟩
theorem UTn.tg {w : World} {base tb : Nat} {A : List URw} {K : Nat} (h : UTn w base tb A K) (h0 : 0 < A.length) : ∃ g, base ≤ g ∧ g < w.heap.size ∧ UTg w base tb g A K := by
  obtain ⟨ra, rc, C, h1, h2⟩ := h
  rcases h2.own.2 with ⟨_, e⟩ | ⟨g, cap, cur, e, hb, hh, _⟩
  · omega
  · simp only [Value.slice.injEq] at e
    obtain ⟨rfl, -, rfl⟩ := e
    exact ⟨g, hb, lt_of_block hh, rc, C, h1, h2⟩
theorem UTg.cells {w : World} {base tb g : Nat} {A : List URw} {K : Nat} (h : UTg w base tb g A K) : ∃ c, w.heap[g]? = some (.cells c 64 (0, 0)) := by
  obtain ⟨rc, C, _, h2⟩ := h
  exact h2.cells
theorem UTg.below {w w' : World} {base tb g : Nat} {A : List URw} {K : Nat} (h : UTg w base tb g A K) (b : Below w.heap.size w w') : UTg w' base tb g A K := by
  obtain ⟨rc, C, h1, h2⟩ := h
  exact ⟨rc, C, box_below b h1 (lt_of_block h1), h2.below b⟩
theorem UTg.mono {w : World} {base tb g : Nat} {A : List URw} {K K' : Nat} (h : UTg w base tb g A K) (hk : K ≤ K') : UTg w base tb g A K' := by
  obtain ⟨rc, C, h1, h2⟩ := h
  exact ⟨rc, C, h1, h2.mono hk⟩
/-- The other tableau stays. -/
theorem UTn.bg {w w' : World} {base tb g : Nat} {A : List URw} {K : Nat} (h : UTn w base tb A K) (b : Bg g w w') (hg : ∃ c, w.heap[g]? = some (.cells c 64 (0, 0))) (hne : g < base) : UTn w' base tb A K := by
  obtain ⟨ra, rc, C, h1, h2⟩ := h
  obtain ⟨c, hc⟩ := hg
  have ht : tb ≠ g := fun e => by subst e; rw [h1] at hc; simp at hc
  refine ⟨ra, rc, C, b.box h1 ht, ⟨⟨h2.own.1, ?_⟩, h2.len, h2.six, fun i k1 k2 => ?_⟩⟩
  · rcases h2.own.2 with hn | ⟨g', cap, cur, e, hb, hgg, rest⟩
    · exact .inl hn
    · exact .inr ⟨g', cap, cur, e, hb, b.box hgg (by omega), rest⟩
  · obtain ⟨tv, p1, p2, p3, p4, e, hl⟩ := h2.is_ i k1 k2
    exact ⟨tv, p1, p2, p3, p4, e, hl.kty (b.kty hc) (by decide) (by decide) (by decide) (by decide)⟩
theorem uPivotG_any (w : World) (base tb g : Nat) (A : List URw) (m K K2 : Nat) (hKm : K = m / 9 + 1) (hm : 18 ≤ m) (hK2 : K2 = (2 * m + 1) / 9 + 1) (hK : K2 ≤ 200000) (h : UTg w base tb g A K) (hI : PInv A (ucols A) m) (hcl : ucols A ≤ 192) (hA : A.length ≤ 64) (r c : Int) :
    Calls Tryz.prog 14 #[.pointer (some ⟨tb, 0, none⟩), .int .i64 r, .int .i64 c] w fun e w' => ∃ n A', e = .returned (.int .i64 n) ∧ PivS A r c n A' ∧ UTg w' base tb g A' K2 ∧ Bg g w w' := by
  have hKK : K ≤ K2 := by omega
  cases hu : uhs A r c with
  | false =>
    refine (uPivot_none w tb A K (by omega) h.tn.tb r c hu).mono ?_
    rintro e w' ⟨rfl, rfl⟩
    exact ⟨1, A, rfl, Or.inl ⟨hu, rfl, rfl⟩, h.mono hKK, Bg.refl _ _⟩
  | true =>
    have hq : 0 ≤ r ∧ r < (A.length : Int) ∧ 0 ≤ c ∧ c < (ucols A : Int) := by
      unfold uhs at hu
      simp only [Bool.and_eq_true, decide_eq_true_eq] at hu
      exact ⟨hu.1.1.1, hu.1.1.2, hu.1.2, hu.2⟩
    obtain ⟨i, rfl⟩ : ∃ i : Nat, r = i := ⟨r.toNat, by omega⟩
    obtain ⟨k, rfl⟩ : ∃ k : Nat, c = k := ⟨c.toNat, by omega⟩
    have hi : i < A.length := by omega
    have hk : k < ucols A := by omega
    have hkl : k < (A[i]).1.length := by rw [hI.len _ (List.getElem_mem hi)]; exact hk
    by_cases h0 : (A[i]).1.getD k 0 = 0
    · refine (uPivot_zero w tb A K (by omega) h.tn.tb hI.len hcl hA i k hi hkl (by rw [← getD_at hkl]; exact h0)).mono ?_
      rintro e w' ⟨rfl, b⟩
      exact ⟨12, A, rfl, Or.inr (Or.inl ⟨i, k, hi, hk, rfl, rfl, h0, rfl, rfl⟩), (h.below b).mono hKK, Bg.of_below b⟩
    · obtain ⟨rc, C, h1, h2⟩ := h
      refine (uPivot_yes w tb g rc base C A m K K2 hKm hm hK2 hK h1 h2 hI.len hcl hA i k hi hk h0 hI.abs).mono ?_
      rintro e w' ⟨rfl, ⟨C', h3⟩, bg⟩
      obtain ⟨gc, hgc⟩ := h2.cells
      have hne : tb ≠ g := fun e => by subst e; rw [h1] at hgc; simp at hgc
      have h4 := bg.box h1 hne
      exact ⟨0, pivA A i k, rfl, Or.inr (Or.inr ⟨i, k, hi, hk, rfl, rfl, h0, rfl, rfl⟩), ⟨rc, C', by rw [pivA_len]; exact h4, by rw [pivA_len]; exact h3⟩, bg⟩
theorem PivS.uniq {A A1 A2 : List URw} {r c n1 n2 : Int} (h1 : PivS A r c n1 A1) (h2 : PivS A r c n2 A2) (hl : ∀ a ∈ A, a.1.length = ucols A) : n1 = n2 ∧ A1 = A2 := by
  have no : ∀ (i k : Nat), i < A.length → k < ucols A → r = (i : Int) → c = (k : Int) → uhs A r c = false → False := fun i k hi hk hr hc hu => by
    subst hr hc
    unfold uhs at hu
    simp at hu
    omega
  rcases h1 with ⟨u1, rfl, rfl⟩ | ⟨i, k, hi, hk, hr, hc, hz, rfl, rfl⟩ | ⟨i, k, hi, hk, hr, hc, hz, rfl, rfl⟩
  · rcases h2 with ⟨u2, rfl, rfl⟩ | ⟨i', k', hi', hk', hr', hc', hz', rfl, rfl⟩ | ⟨i', k', hi', hk', hr', hc', hz', rfl, rfl⟩
    · exact ⟨rfl, rfl⟩
    · exact absurd u1 (fun u => no i' k' hi' hk' hr' hc' u)
    · exact absurd u1 (fun u => no i' k' hi' hk' hr' hc' u)
  · rcases h2 with ⟨u2, rfl, rfl⟩ | ⟨i', k', hi', hk', hr', hc', hz', rfl, rfl⟩ | ⟨i', k', hi', hk', hr', hc', hz', rfl, rfl⟩
    · exact absurd u2 (fun u => no i k hi hk hr hc u)
    · exact ⟨rfl, rfl⟩
    · obtain rfl : i = i' := by omega
      obtain rfl : k = k' := by omega
      exact absurd hz hz'
  · rcases h2 with ⟨u2, rfl, rfl⟩ | ⟨i', k', hi', hk', hr', hc', hz', rfl, rfl⟩ | ⟨i', k', hi', hk', hr', hc', hz', rfl, rfl⟩
    · exact absurd u2 (fun u => no i k hi hk hr hc u)
    · obtain rfl : i = i' := by omega
      obtain rfl : k = k' := by omega
      exact absurd hz' hz
    · obtain rfl : i = i' := by omega
      obtain rfl : k = k' := by omega
      exact ⟨rfl, rfl⟩
theorem PivS.ok {A A' : List URw} {r c : Int} (h : PivS A r c 0 A') : ∃ (i k : Nat) (hi : i < A.length), k < ucols A ∧ r = (i : Int) ∧ c = (k : Int) ∧ (A[i]).1.getD k 0 ≠ 0 ∧ A' = pivA A i k := by
  rcases h with ⟨_, h, _⟩ | ⟨_, _, _, _, _, _, _, h, _⟩ | ⟨i, k, hi, hk, hr, hc, hne, _, rfl⟩
  · cases h
  · cases h
  · exact ⟨i, k, hi, hk, hr, hc, hne, rfl⟩
theorem PivS.no {A A' : List URw} {r c n : Int} (h : PivS A r c n A') (hn : n ≠ 0) : uhs A r c = false ∨ ∃ (i k : Nat) (hi : i < A.length), k < ucols A ∧ r = (i : Int) ∧ c = (k : Int) ∧ (A[i]).1.getD k 0 = 0 := by
  rcases h with ⟨h, _, _⟩ | ⟨i, k, hi, hk, hr, hc, hz, _, _⟩ | ⟨i, k, hi, hk, hr, hc, hne, h, _⟩
  · exact Or.inl h
  · exact Or.inr ⟨i, k, hi, hk, hr, hc, hz⟩
  · exact absurd h hn
theorem vl_zero {A : List URw} {c m i k : Nat} (h : PInv A c m) (hi : i < A.length) : vl A[i] k = 0 ↔ (A[i]).1.getD k 0 = 0 := by
  have hb : (((A[i]).2.1 : Int) : Rat) ≠ 0 := int_ne (h.pos _ (List.getElem_mem hi))
  constructor
  · intro e
    unfold vl at e
    have e2 : (((A[i]).1.getD k 0 : Int) : Rat) = 0 := by
      rcases Rat.mul_eq_zero.1 (by rw [← Rat.div_def]; exact e) with h1 | h1
      · exact h1
      · grind
    exact_mod_cast e2
  · intro e
    unfold vl
    rw [e, nought_div]
theorem uhs_piv {A : List URw} {i k m : Nat} {r c : Int} (h : PInv A (ucols A) m) (hi : i < A.length) (hk : k < ucols A) (hne : (A[i]).1.getD k 0 ≠ 0) : uhs (pivA A i k) r c = uhs A r c := by
  unfold uhs
  rw [pivA_len, ucols_piv h hi hk hne]
/-- Refused ahead, refused behind: a pivot in the same row. -/
theorem back_no {A A1 A3 : List URw} {i k m : Nat} {c n1 n3 : Int} (h : PInv A (ucols A) m) (hi : i < A.length) (hk : k < ucols A) (hne : (A[i]).1.getD k 0 ≠ 0) (h1 : PivS A (i : Int) c n1 A1) (hn1 : n1 ≠ 0) (h3 : PivS (pivA A i k) (i : Int) c n3 A3) : n3 ≠ 0 := by
  rintro rfl
  obtain ⟨i', k', hi', hk', hr, rfl, hz, -⟩ := h3.ok
  obtain rfl : i = i' := by omega
  have hc := ucols_piv h hi hk hne
  have h' : PInv (pivA A i k) (ucols (pivA A i k)) (2 * m + 1) := by rw [hc]; exact pivA_inv h hi hk hne
  rw [hc] at hk'
  rcases h1.no hn1 with hu | ⟨i2, k2, hi2, hk2, hr2, hc2, hz2⟩
  · unfold uhs at hu
    simp at hu
    omega
  · obtain rfl : i = i2 := by omega
    obtain rfl : k' = k2 := by omega
    refine hz ((vl_zero h' hi').1 ?_)
    rw [pivA_row h hi hk hne k' hk' hi', (vl_zero h hi).2 hz2]
    rw [Rat.div_def, Rat.zero_mul]
theorem back_yes {A A1 A2 : List URw} {i k m : Nat} {a n2 : Int} (h : PInv A (ucols A) m) (hi : i < A.length) (hk : k < ucols A) (hne : (A[i]).1.getD k 0 ≠ 0) (h1 : PivS A (i : Int) a 0 A1) (h2 : PivS A1 (i : Int) (k : Int) n2 A2) :
    n2 = 0 ∧ A2.length = A.length ∧ ucols A2 = ucols A ∧ PInv A2 (ucols A2) (2 * (2 * m + 1) + 1) ∧ ∀ (x : Nat) (hx : x < ucols A) (hi2 : i < A2.length) (hi3 : i < (pivA A i k).length), vl A2[i] x = vl (pivA A i k)[i] x := by
  obtain ⟨i', ka, hi', hka, hr, rfl, hza, rfl⟩ := h1.ok
  obtain rfl : i = i' := by omega
  have hc := ucols_piv h hi hka hza
  have h' : PInv (pivA A i ka) (ucols (pivA A i ka)) (2 * m + 1) := by rw [hc]; exact pivA_inv h hi hka hza
  have hi1 : i < (pivA A i ka).length := by rw [pivA_len]; exact hi
  have n1 : vl A[i] k ≠ 0 := fun e => hne ((vl_zero h hi).1 e)
  have n2' : vl A[i] ka ≠ 0 := fun e => hza ((vl_zero h hi).1 e)
  have hz1 : ((pivA A i ka)[i]).1.getD k 0 ≠ 0 := fun e => by
    have := (vl_zero h' hi1).2 e
    rw [pivA_row h hi hka hza k hk hi1] at this
    grind
  have hn : n2 = 0 := by
    by_cases e : n2 = 0
    · exact e
    · exfalso
      rcases h2.no e with hu | ⟨i2, k2, hi2, hk2, hr2, hc2, hz2⟩
      · rw [uhs_piv h hi hka hza] at hu
        unfold uhs at hu
        simp at hu
        omega
      · obtain rfl : i = i2 := by omega
        obtain rfl : k = k2 := by omega
        exact hz1 hz2
  subst hn
  obtain ⟨i3, k3, hi3, hk3, hr3, hc3, hz3, rfl⟩ := h2.ok
  obtain rfl : i = i3 := by omega
  obtain rfl : k = k3 := by omega
  have hc2 := ucols_piv h' hi1 (by rw [hc]; exact hk) hz1
  refine ⟨rfl, by rw [pivA_len, pivA_len], by rw [hc2, hc], by rw [hc2]; exact pivA_inv h' hi1 (by rw [hc]; exact hk) hz1, fun x hx hi2 hi3' => ?_⟩
  rw [pivA_row h' hi1 (by rw [hc]; exact hk) hz1 x (by rw [hc]; exact hx) hi2, pivA_row h hi hka hza x hx hi1, pivA_row h hi hka hza k hk hi1, pivA_row h hi hk hne x hx hi3']
  grind
end Go.Proofs.YtgojlegknlalpaaGreatDoor
