/- The document's DivMod in one, and its Gcd. -/
import Derived.Test.YtchibjdhdbkdhaaDoorRDivMod
import Derived.Test.YtchibjdhdbkdhaaDoorRWord
namespace Go.Proofs.YtchibjdhdbkdhaaDoor
open Go.RowKit
set_option linter.unusedVariables false
set_option maxRecDepth 100000
set_option linter.unusedSimpArgs false

theorem RefIs.len {w : World} {ao : Option Addr} {l c n K : Nat} (h : RefIs w (.agg #[.slice ao l c]) n K) : ∃ L, w.ownsRow 0 3 1 (.slice ao l c) l (i64s L) ∧ R.Bd L ∧ Top L ∧ R.val L = n ∧ L.length = l ∧ l ≤ K ∧ (l = 0 ↔ n = 0) := by
  obtain ⟨sl, L, h1, h2, h3, h4, h5, h6⟩ := h
  simp only [Value.agg.injEq] at h1
  have e : sl = .slice ao l c := by simpa using h1.symm
  subst e
  have hl : L.length = l := by
    obtain ⟨ao', c', e⟩ := ints_slice h2
    simp only [Value.slice.injEq] at e
    exact e.2.1.symm
  rw [hl] at h2
  refine ⟨L, h2, h3, h4, h5, hl, by omega, ?_, ?_⟩
  · intro e; rw [← h5, List.eq_nil_of_length_eq_zero (by omega : L.length = 0)]; rfl
  · intro e
    rcases Nat.eq_zero_or_pos L.length with h | h
    · omega
    · exfalso
      obtain ⟨j, hj⟩ : ∃ j, L.length = j + 1 := ⟨L.length - 1, by omega⟩
      have ht : lg L j ≠ 0 := by have := h4 (by omega); rw [hj] at this; exact this
      have h7 : R.val L = R.pv L j + lg L j * 1000000000 ^ j := by unfold R.val; rw [hj]; simp only [R.pv]
      have h9 : 1 * 1000000000 ^ j ≤ lg L j * 1000000000 ^ j := Nat.mul_le_mul_right _ (by omega)
      have h8 : 0 < 1000000000 ^ j := Nat.pow_pos (by decide)
      omega
/-- The document's DivMod where the divisor is not 0. -/
theorem rdivmod_any (w : World) (a b : Value) (m n K K' : Nat) (hK : K ≤ 400000000) (hK' : K' ≤ 400000000) (ha : RefIs w a m K) (hb : RefIs w b n K') (h0 : n ≠ 0) :
    Calls Tryd.prog 41 #[a, b] w fun e w' => (∃ q r, e = .returned (.tuple #[q, r, .int .i64 0]) ∧ RefIs w' q (m / n) K ∧ RefIs w' r (m % n) K') ∧ Below w.heap.size w w' := by
  have hq : m / n < 1000000000 ^ K := Nat.lt_of_le_of_lt (Nat.div_le_self _ _) ha.lt
  have hr : m % n < 1000000000 ^ K' := Nat.lt_trans (Nat.mod_lt _ (by omega)) hb.lt
  obtain ⟨aa, la, ca, rfl⟩ := ha.form
  obtain ⟨ab, lb, cb, rfl⟩ := hb.form
  obtain ⟨A, oA, bA, tA, vA, lA, kA, zA⟩ := ha.len
  obtain ⟨B, oB, bB, tB, vB, lB, kB, zB⟩ := hb.len
  subst vA
  have hlb : lb ≠ 0 := fun e => h0 (zB.1 e)
  by_cases h1 : lb = 1
  · subst h1
    have hB1 : R.val B = lg B 0 := by unfold R.val; rw [lB]; simp [R.pv]
    rcases oB.2 with ⟨h', _⟩ | ⟨g, cap, cur, h', r1, r2, r3, _⟩
    · simp at h'
    simp only [Value.slice.injEq, true_and] at h'
    obtain ⟨rfl, rfl⟩ := h'
    have cB := i64s_at oB 0 (by omega)
    have hb0 := bB 0
    have hd0 : lg B 0 ≠ 0 := by rw [← hB1, vB]; exact h0
    refine (rdiv_one w aa la ca g cb (lg B 0) A bA (by omega) lA oA cB (by omega) (by omega) hb0).mono ?_
    rintro e w' ⟨⟨q, r, rfl, h1, h2⟩, hw⟩
    rw [← hB1, vB] at h1 h2
    exact ⟨⟨q, r, rfl, h1.fit hq, h2.fit hr⟩, hw⟩
  · refine (rdiv_long w aa ab la ca lb cb n A bA (by omega) (by omega) (by omega) lA oA (hb.fit (by have := R.val_lt bB; rw [vB, lB] at this; exact this)) (by omega)).mono ?_
    rintro e w' ⟨⟨q, r, rfl, h1, h2⟩, hw⟩
    exact ⟨⟨q, r, rfl, h1.fit hq, h2.fit hr⟩, hw⟩
theorem rdivmod_none (w : World) (a b : Value) (m K K' : Nat) (ha : RefIs w a m K) (hb : RefIs w b 0 K') :
    Calls Tryd.prog 41 #[a, b] w fun e w' => e = .returned (.tuple #[.agg #[.slice none 0 0], .agg #[.slice none 0 0], .int .i64 12]) ∧ Below w.heap.size w w' := by
  obtain ⟨aa, la, ca, rfl⟩ := ha.form
  obtain ⟨ab, lb, cb, rfl⟩ := hb.form
  obtain ⟨B, oB, bB, tB, vB, lB, kB, zB⟩ := hb.len
  rw [zB.2 rfl]
  exact rdiv_zero w aa ab la ca cb
theorem rone_set {w : World} {b : Nat} {u x : Value} {t : TypeId} (h : w.heap[b]? = some (.cells #[u] t (0, 0))) : (w.setCell ⟨b, 0, none⟩ x).heap[b]? = some (.cells #[x] t (0, 0)) := by
  have hlt := lt_of_block h
  have h' : w.heap[b] = .cells #[u] t (0, 0) := by simpa [Array.getElem?_eq_getElem hlt] using h
  show (w.heap.modify b _)[b]? = _
  simp [Array.getElem_modify, hlt, h']
def RGcdMem (w : World) (K p k : Nat) (ao : Option Addr) (la ca : Nat) (bo : Option Addr) (lb cb : Nat) (wr : World) : Prop :=
  RefIs wr (.agg #[.slice ao la ca]) p K ∧ RefIs wr (.agg #[.slice bo lb cb]) k K ∧ wr.heap[w.heap.size]? = some (Obj.cells #[.slice ao la ca] 29) ∧ wr.heap[w.heap.size + 1]? = some (Obj.cells #[.slice bo lb cb] 29) ∧ wr.heap[w.heap.size + 1 + 1]? = some (Obj.cells #[.slice none 0 0] 29) ∧ Below w.heap.size w wr ∧ w.heap.size + 1 + 1 < wr.heap.size
theorem RGcdMem.below {w : World} {K p k : Nat} {ao : Option Addr} {la ca : Nat} {bo : Option Addr} {lb cb : Nat} {wr X : World} (h : RGcdMem w K p k ao la ca bo lb cb wr) (hb : Below wr.heap.size wr X) : RGcdMem w K p k ao la ca bo lb cb X := by
  obtain ⟨h1, h2, h3, h4, h5, h6, h7⟩ := h
  have := hb.size
  exact ⟨h1.below hb, h2.below hb, box_below hb h3 (by omega), box_below hb h4 (by omega), box_below hb h5 (by omega), chain2 h6 hb, by omega⟩
theorem rgcd_cells {w w3 : World} {K p k r : Nat} {ao bo pr : Option Addr} {la ca lb cb lr cr : Nat} (h : RGcdMem w K p k ao la ca bo lb cb w3) (hr : RefIs w3 (.agg #[.slice pr lr cr]) r K) (o : Obj) :
    ((w3.alloc o).alloc (Obj.cells #[.slice pr lr cr] 29)).cell? ⟨w.heap.size, 0, none⟩ = some (.slice ao la ca) ∧ ((w3.alloc o).alloc (Obj.cells #[.slice pr lr cr] 29)).cell? ⟨w.heap.size + 1, 0, none⟩ = some (.slice bo lb cb) ∧ ((w3.alloc o).alloc (Obj.cells #[.slice pr lr cr] 29)).cell? ⟨w3.heap.size + 1, 0, none⟩ = some (.slice pr lr cr) ∧
    ((w3.alloc o).alloc (Obj.cells #[.slice pr lr cr] 29)).frozen? ⟨w.heap.size, 0, none⟩ = false ∧ ((w3.alloc o).alloc (Obj.cells #[.slice pr lr cr] 29)).frozen? ⟨w.heap.size + 1, 0, none⟩ = false ∧ w3.heap.size + 1 ≠ w.heap.size ∧ w3.heap.size + 1 ≠ w.heap.size + 1 := by
  obtain ⟨h1, h2, h3, h4, h5, h6, h7⟩ := h
  have b0 := box_alloc (box_alloc h3 o) (Obj.cells #[.slice pr lr cr] 29)
  have b1 := box_alloc (box_alloc h4 o) (Obj.cells #[.slice pr lr cr] 29)
  have b2 := boxed2_second w3 o (Obj.cells #[.slice pr lr cr] 29)
  exact ⟨cell_of_one b0, cell_of_one b1, cell_of_one b2, free_of_one b0, free_of_one b1, by omega, by omega⟩
theorem rgcd_turn {w w3 : World} {K p k m n : Nat} {ao bo pr : Option Addr} {la ca lb cb lr cr : Nat} (h : RGcdMem w K p k ao la ca bo lb cb w3) (hr : RefIs w3 (.agg #[.slice pr lr cr]) (p % k) K) (hg : Nat.gcd p k = Nat.gcd m n) (h0 : 0 < k) (o : Obj) :
    p % k < k ∧ Nat.gcd k (p % k) = Nat.gcd m n ∧ ∀ X, ((w3.alloc o).alloc (Obj.cells #[.slice pr lr cr] 29)) = X → RGcdMem w K k (p % k) bo lb cb pr lr cr ((X.setCell ⟨w.heap.size, 0, none⟩ (.slice bo lb cb)).setCell ⟨w.heap.size + 1, 0, none⟩ (.slice pr lr cr)) := by
  obtain ⟨h1, h2, h3, h4, h5, h6, h7⟩ := h
  refine ⟨Nat.mod_lt _ h0, by rw [← hg, Nat.gcd_comm k, ← Nat.gcd_rec, Nat.gcd_comm], ?_⟩
  rintro X rfl
  have B0 : Below w3.heap.size w3 ((w3.alloc o).alloc (Obj.cells #[.slice pr lr cr] 29)) := boxed2 (Below.refl _ _) _ _
  have b0 := box_below B0 h3 (by omega)
  have b1 := box_below B0 h4 (by omega)
  have b2 := box_below B0 h5 (by omega)
  have s0 := B0.size
  generalize ((w3.alloc o).alloc (Obj.cells #[.slice pr lr cr] 29)) = X at *
  have b1' := box_set b1 (show w.heap.size + 1 ≠ w.heap.size by omega) (.slice bo lb cb)
  refine ⟨((h2.below B0).box b0 (by decide) _).box b1' (by decide) _, ((hr.below B0).box b0 (by decide) _).box b1' (by decide) _, ?_, ?_, ?_, ?_, ?_⟩
  · exact box_set (rone_set b0) (by omega) _
  · exact rone_set b1'
  · exact box_set (box_set b2 (by omega) _) (by omega) _
  · exact ((chain2 h6 B0).setCell (p := ⟨w.heap.size, 0, none⟩) (Nat.le_refl _) _).setCell (p := ⟨w.heap.size + 1, 0, none⟩) (by show w.heap.size ≤ w.heap.size + 1; omega) _
  · have : ((X.setCell ⟨w.heap.size, 0, none⟩ (.slice bo lb cb)).setCell ⟨w.heap.size + 1, 0, none⟩ (.slice pr lr cr)).heap.size = X.heap.size := by simp
    omega
end Go.Proofs.YtchibjdhdbkdhaaDoor
