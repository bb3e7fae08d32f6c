/- The document's DivMod in one, and its Gcd. -/
import Derived.Test.YtciecncdejlkkaaDoorRDivMod
import Derived.Test.YtciecncdejlkkaaDoorRWord
namespace Go.Proofs.YtciecncdejlkkaaDoor
open Go.RowKit
set_option linter.unusedVariables false
set_option maxRecDepth 100000
set_option linter.unusedSimpArgs false

theorem RefIs.len {w : World} {ao : Option Addr} {l c n K : Nat} (h : RefIs w (.agg #[.slice ao l c]) n K) : ∃ L, w.ownsRow 0 3 1 (.slice ao l c) l (i64s L) ∧ R.Bd L ∧ Top L ∧ R.val L = n ∧ L.length = l ∧ l ≤ K ∧ (l = 0 ↔ n = 0) := by
  obtain ⟨sl, L, h1, h2, h3, h4, h5, h6⟩ := h
  simp only [Value.agg.injEq] at h1
  have e : sl = .slice ao l c := by simpa using h1.symm
  subst e
  have hl : L.length = l := by
    obtain ⟨ao', c', e⟩ := ints_slice h2
    simp only [Value.slice.injEq] at e
    exact e.2.1.symm
  rw [hl] at h2
  refine ⟨L, h2, h3, h4, h5, hl, by omega, ?_, ?_⟩
  · intro e; rw [← h5, List.eq_nil_of_length_eq_zero (by omega : L.length = 0)]; rfl
  · intro e
    rcases Nat.eq_zero_or_pos L.length with h | h
    · omega
    · exfalso
      obtain ⟨j, hj⟩ : ∃ j, L.length = j + 1 := ⟨L.length - 1, by omega⟩
      have ht : lg L j ≠ 0 := by have := h4 (by omega); rw [hj] at this; exact this
      have h7 : R.val L = R.pv L j + lg L j * 1000000000 ^ j := by unfold R.val; rw [hj]; simp only [R.pv]
      have h9 : 1 * 1000000000 ^ j ≤ lg L j * 1000000000 ^ j := Nat.mul_le_mul_right _ (by omega)
      have h8 : 0 < 1000000000 ^ j := Nat.pow_pos (by decide)
      omega
/-- The document's DivMod where the divisor is not 0. -/
theorem rdivmod_any (w : World) (a b : Value) (m n K K' : Nat) (hK : K ≤ 400000000) (hK' : K' ≤ 400000000) (ha : RefIs w a m K) (hb : RefIs w b n K') (h0 : n ≠ 0) :
    Calls Tryd.prog 11 #[a, b] w fun e w' => (∃ q r, e = .returned (.tuple #[q, r, .int .i64 0]) ∧ RefIs w' q (m / n) K ∧ RefIs w' r (m % n) K') ∧ Below w.heap.size w w' := by
  have hq : m / n < 1000000000 ^ K := Nat.lt_of_le_of_lt (Nat.div_le_self _ _) ha.lt
  have hr : m % n < 1000000000 ^ K' := Nat.lt_trans (Nat.mod_lt _ (by omega)) hb.lt
  obtain ⟨aa, la, ca, rfl⟩ := ha.form
  obtain ⟨ab, lb, cb, rfl⟩ := hb.form
  obtain ⟨A, oA, bA, tA, vA, lA, kA, zA⟩ := ha.len
  obtain ⟨B, oB, bB, tB, vB, lB, kB, zB⟩ := hb.len
  subst vA
  have hlb : lb ≠ 0 := fun e => h0 (zB.1 e)
  by_cases h1 : lb = 1
  · subst h1
    have hB1 : R.val B = lg B 0 := by unfold R.val; rw [lB]; simp [R.pv]
    rcases oB.2 with ⟨h', _⟩ | ⟨g, cap, cur, h', r1, r2, r3, _⟩
    · simp at h'
    simp only [Value.slice.injEq, true_and] at h'
    obtain ⟨rfl, rfl⟩ := h'
    have cB := i64s_at oB 0 (by omega)
    have hb0 := bB 0
    have hd0 : lg B 0 ≠ 0 := by rw [← hB1, vB]; exact h0
    refine (rdiv_one w aa la ca g cb (lg B 0) A bA (by omega) lA oA cB (by omega) (by omega) hb0).mono ?_
    rintro e w' ⟨⟨q, r, rfl, h1, h2⟩, hw⟩
    rw [← hB1, vB] at h1 h2
    exact ⟨⟨q, r, rfl, h1.fit hq, h2.fit hr⟩, hw⟩
  · refine (rdiv_long w aa ab la ca lb cb n A bA (by omega) (by omega) (by omega) lA oA (hb.fit (by have := R.val_lt bB; rw [vB, lB] at this; exact this)) (by omega)).mono ?_
    rintro e w' ⟨⟨q, r, rfl, h1, h2⟩, hw⟩
    exact ⟨⟨q, r, rfl, h1.fit hq, h2.fit hr⟩, hw⟩
theorem rdivmod_none (w : World) (a b : Value) (m K K' : Nat) (ha : RefIs w a m K) (hb : RefIs w b 0 K') :
    Calls Tryd.prog 11 #[a, b] w fun e w' => e = .returned (.tuple #[.agg #[.slice none 0 0], .agg #[.slice none 0 0], .int .i64 12]) ∧ Below w.heap.size w w' := by
  obtain ⟨aa, la, ca, rfl⟩ := ha.form
  obtain ⟨ab, lb, cb, rfl⟩ := hb.form
  obtain ⟨B, oB, bB, tB, vB, lB, kB, zB⟩ := hb.len
  rw [zB.2 rfl]
  exact rdiv_zero w aa ab la ca cb
theorem rone_set {w : World} {b : Nat} {u x : Value} {t : TypeId} (h : w.heap[b]? = some (.cells #[u] t (0, 0))) : (w.setCell ⟨b, 0, none⟩ x).heap[b]? = some (.cells #[x] t (0, 0)) := by
  have hlt := lt_of_block h
  have h' : w.heap[b] = .cells #[u] t (0, 0) := by simpa [Array.getElem?_eq_getElem hlt] using h
  show (w.heap.modify b _)[b]? = _
  simp [Array.getElem_modify, hlt, h']
def RGcdMem (w : World) (K p k : Nat) (ao : Option Addr) (la ca : Nat) (bo : Option Addr) (lb cb : Nat) (wr : World) : Prop :=
  RefIs wr (.agg #[.slice ao la ca]) p K ∧ RefIs wr (.agg #[.slice bo lb cb]) k K ∧ wr.heap[w.heap.size]? = some (Obj.cells #[.slice ao la ca] 29) ∧ wr.heap[w.heap.size + 1]? = some (Obj.cells #[.slice bo lb cb] 29) ∧ wr.heap[w.heap.size + 1 + 1]? = some (Obj.cells #[.slice none 0 0] 29) ∧ Below w.heap.size w wr ∧ w.heap.size + 1 + 1 < wr.heap.size
theorem RGcdMem.below {w : World} {K p k : Nat} {ao : Option Addr} {la ca : Nat} {bo : Option Addr} {lb cb : Nat} {wr X : World} (h : RGcdMem w K p k ao la ca bo lb cb wr) (hb : Below wr.heap.size wr X) : RGcdMem w K p k ao la ca bo lb cb X := by
  obtain ⟨h1, h2, h3, h4, h5, h6, h7⟩ := h
  have := hb.size
  exact ⟨h1.below hb, h2.below hb, box_below hb h3 (by omega), box_below hb h4 (by omega), box_below hb h5 (by omega), chain2 h6 hb, by omega⟩
theorem rgcd_cells {w w3 : World} {K p k r : Nat} {ao bo pr : Option Addr} {la ca lb cb lr cr : Nat} (h : RGcdMem w K p k ao la ca bo lb cb w3) (hr : RefIs w3 (.agg #[.slice pr lr cr]) r K) (o : Obj) :
    ((w3.alloc o).alloc (Obj.cells #[.slice pr lr cr] 29)).cell? ⟨w.heap.size, 0, none⟩ = some (.slice ao la ca) ∧ ((w3.alloc o).alloc (Obj.cells #[.slice pr lr cr] 29)).cell? ⟨w.heap.size + 1, 0, none⟩ = some (.slice bo lb cb) ∧ ((w3.alloc o).alloc (Obj.cells #[.slice pr lr cr] 29)).cell? ⟨w3.heap.size + 1, 0, none⟩ = some (.slice pr lr cr) ∧
    ((w3.alloc o).alloc (Obj.cells #[.slice pr lr cr] 29)).frozen? ⟨w.heap.size, 0, none⟩ = false ∧ ((w3.alloc o).alloc (Obj.cells #[.slice pr lr cr] 29)).frozen? ⟨w.heap.size + 1, 0, none⟩ = false ∧ w3.heap.size + 1 ≠ w.heap.size ∧ w3.heap.size + 1 ≠ w.heap.size + 1 := by
  obtain ⟨h1, h2, h3, h4, h5, h6, h7⟩ := h
  have b0 := box_alloc (box_alloc h3 o) (Obj.cells #[.slice pr lr cr] 29)
  have b1 := box_alloc (box_alloc h4 o) (Obj.cells #[.slice pr lr cr] 29)
  have b2 := boxed2_second w3 o (Obj.cells #[.slice pr lr cr] 29)
  exact ⟨cell_of_one b0, cell_of_one b1, cell_of_one b2, free_of_one b0, free_of_one b1, by omega, by omega⟩
theorem rgcd_turn {w w3 : World} {K p k m n : Nat} {ao bo pr : Option Addr} {la ca lb cb lr cr : Nat} (h : RGcdMem w K p k ao la ca bo lb cb w3) (hr : RefIs w3 (.agg #[.slice pr lr cr]) (p % k) K) (hg : Nat.gcd p k = Nat.gcd m n) (h0 : 0 < k) (o : Obj) :
    p % k < k ∧ Nat.gcd k (p % k) = Nat.gcd m n ∧ ∀ X, ((w3.alloc o).alloc (Obj.cells #[.slice pr lr cr] 29)) = X → RGcdMem w K k (p % k) bo lb cb pr lr cr ((X.setCell ⟨w.heap.size, 0, none⟩ (.slice bo lb cb)).setCell ⟨w.heap.size + 1, 0, none⟩ (.slice pr lr cr)) := by
  obtain ⟨h1, h2, h3, h4, h5, h6, h7⟩ := h
  refine ⟨Nat.mod_lt _ h0, by rw [← hg, Nat.gcd_comm k, ← Nat.gcd_rec, Nat.gcd_comm], ?_⟩
  rintro X rfl
  have B0 : Below w3.heap.size w3 ((w3.alloc o).alloc (Obj.cells #[.slice pr lr cr] 29)) := boxed2 (Below.refl _ _) _ _
  have b0 := box_below B0 h3 (by omega)
  have b1 := box_below B0 h4 (by omega)
  have b2 := box_below B0 h5 (by omega)
  have s0 := B0.size
  generalize ((w3.alloc o).alloc (Obj.cells #[.slice pr lr cr] 29)) = X at *
  have b1' := box_set b1 (show w.heap.size + 1 ≠ w.heap.size by omega) (.slice bo lb cb)
  refine ⟨((h2.below B0).box b0 (by decide) _).box b1' (by decide) _, ((hr.below B0).box b0 (by decide) _).box b1' (by decide) _, ?_, ?_, ?_, ?_, ?_⟩
  · exact box_set (rone_set b0) (by omega) _
  · exact rone_set b1'
  · exact box_set (box_set b2 (by omega) _) (by omega) _
  · exact ((chain2 h6 B0).setCell (p := ⟨w.heap.size, 0, none⟩) (Nat.le_refl _) _).setCell (p := ⟨w.heap.size + 1, 0, none⟩) (by show w.heap.size ≤ w.heap.size + 1; omega) _
  · have : ((X.setCell ⟨w.heap.size, 0, none⟩ (.slice bo lb cb)).setCell ⟨w.heap.size + 1, 0, none⟩ (.slice pr lr cr)).heap.size = X.heap.size := by simp
    omega
set_option maxHeartbeats 2000000 in
theorem rgcd_any (w : World) (a b : Value) (m n K : Nat) (hK : K ≤ 400000000) (ha : RefIs w a m K) (hb : RefIs w b n K) :
    Calls Tryd.prog 15 #[a, b] w fun e w' => ∃ v, e = .returned v ∧ RefIs w' v (Nat.gcd m n) K ∧ Below w.heap.size w w' := by
  obtain ⟨ao0, la0, ca0, rfl⟩ := ha.form
  obtain ⟨bo0, lb0, cb0, rfl⟩ := hb.form
  go_enter Tryd.func15, Tryd.ntmps15
  go_wp2
  have B3 := boxed3 (Below.refl w.heap.size w) (Obj.cells #[Value.slice ao0 la0 ca0] 29) (Obj.cells #[Value.slice bo0 lb0 cb0] 29) (Obj.cells #[Value.slice none 0 0] 29)
  have b0 := boxed3_first w (Obj.cells #[Value.slice ao0 la0 ca0] 29) (Obj.cells #[Value.slice bo0 lb0 cb0] 29) (Obj.cells #[Value.slice none 0 0] 29)
  have b1 := boxed3_second w (Obj.cells #[Value.slice ao0 la0 ca0] 29) (Obj.cells #[Value.slice bo0 lb0 cb0] 29) (Obj.cells #[Value.slice none 0 0] 29)
  have b2 := boxed3_third w (Obj.cells #[Value.slice ao0 la0 ca0] 29) (Obj.cells #[Value.slice bo0 lb0 cb0] 29) (Obj.cells #[Value.slice none 0 0] 29)
  have s3 : w.heap.size + 1 + 1 < (((w.alloc (Obj.cells #[Value.slice ao0 la0 ca0] 29)).alloc (Obj.cells #[Value.slice bo0 lb0 cb0] 29)).alloc (Obj.cells #[Value.slice none 0 0] 29)).heap.size := by simp
  generalize ((w.alloc (Obj.cells #[Value.slice ao0 la0 ca0] 29)).alloc (Obj.cells #[Value.slice bo0 lb0 cb0] 29)).alloc (Obj.cells #[Value.slice none 0 0] 29) = W at *
  have G0 := hid (show RGcdMem w K m n ao0 la0 ca0 bo0 lb0 cb0 W from ⟨ha.below B3, hb.below B3, b0, b1, b2, B3, s3⟩)
  clear B3 b0 b1 b2 s3 ha hb
  go_loopg [] n (fun k wr => ∃ p ao la ca bo lb cb, Hid (RGcdMem w K p k ao la ca bo lb cb wr) ∧ Hid (Nat.gcd p k = Nat.gcd m n))
  case atStart => exact ⟨m, _, _, _, _, _, _, G0, hid rfl⟩
  case round =>
    obtain ⟨p, ao, la, ca, bo, lb, cb, HG, HE⟩ := hrel
    have c0 := cell_of_one HG.out.2.2.1
    have c1 := cell_of_one HG.out.2.2.2.1
    have c2 := cell_of_one HG.out.2.2.2.2.1
    have f2 := free_of_one HG.out.2.2.2.2.1
    obtain ⟨LB, oB, bB, tB, vB, lB, kB, zB⟩ := HG.out.2.1.len
    obtain ⟨LA, oA, bA, tA, vA, lA, kA, zA⟩ := HG.out.1.len
    rcases Nat.eq_zero_or_pos gk with h0 | h0
    · have hl0 : lb = 0 := zB.2 h0
      subst hl0
      subst h0
      have hE := HE.out
      rw [Nat.gcd_zero_right] at hE
      have HE' := hid hE
      clear hE HE zA zB vA vB lA lB
      have n2 := HG.out.1.box HG.out.2.2.2.2.1 (by decide) (.slice ao la ca)
      have u2 := cell_of_one (rone_set HG.out.2.2.2.2.1 (x := .slice ao la ca))
      have B2 := HG.out.2.2.2.2.2.1.setCell (p := ⟨w.heap.size + 1 + 1, 0, none⟩) (by show w.heap.size ≤ w.heap.size + 1 + 1; omega) (.slice ao la ca)
      have HX := hid (And.intro n2 (And.intro u2 B2))
      clear n2 u2 B2
      go_wp2
      exact bodyPost_ret (v := .agg #[.slice ao la ca]) (by simp [results, Tryd.results15, go_sem, HX.out.2.1]) rfl ⟨_, rfl, by rw [← HE'.out]; exact HX.out.1, HX.out.2.2⟩
    · have hlb : 0 < (lb : Int) := by have := zB.1; omega
      have HL := hid (And.intro (And.intro vA lA) (And.intro vB lB))
      clear zA zB vA vB lA lB
      by_cases h2 : la ≤ 2
      · by_cases h3 : lb ≤ 2
        · have hx64 : p < 18446744073709551616 := by
            have h := R.pv_lt_word bA (by rw [HL.out.1.2]; exact h2)
            rw [HL.out.1.1] at h; omega
          have hy64 : gk < 18446744073709551616 := by
            have h := R.pv_lt_word bB (by rw [HL.out.2.2]; exact h3)
            rw [HL.out.2.1] at h; omega
          have hz64 : Nat.gcd p gk < 18446744073709551616 := Nat.lt_of_le_of_lt (Nat.gcd_le_right p h0) hy64
          have HWA := hid (fun w' (h' : Below wr.heap.size wr w') => rword_walk w' ao la ca LA bA (by omega) HL.out.1.2 (by rw [HL.out.1.1]; exact hx64) (ownsRow_below oA h'))
          have HWB := hid (fun w' (h' : Below wr.heap.size wr w') => rword_walk w' bo lb cb LB bB (by omega) HL.out.2.2 (by rw [HL.out.2.1]; exact hy64) (ownsRow_below oB h'))
          rw [HL.out.1.1] at HWA
          rw [HL.out.2.1] at HWB
          have C0 : Below wr.heap.size wr wr.drew := (Below.refl _ _).drew
          have e0' : wr.drew.cell? ⟨w.heap.size, 0, none⟩ = some (.slice ao la ca) := c0
          have e1' : wr.drew.cell? ⟨w.heap.size + 1, 0, none⟩ = some (.slice bo lb cb) := c1
          obtain ⟨z, hze⟩ : ∃ z, Nat.gcd p gk = z := ⟨_, rfl⟩
          have HW := hid (fun w' => rgcdw_any w' p gk hx64 hy64)
          rw [hze] at hz64 HW
          have HZ := hid (hze.symm.trans HE.out)
          clear hze oA oB bA bB tA tB
          go_wp2
          go_region_held3 (fun w' => w'.cell? ⟨w.heap.size, 0, none⟩ = some (.slice ao la ca) ∧ w'.cell? ⟨w.heap.size + 1, 0, none⟩ = some (.slice bo lb cb)) ((first | exact ⟨e0', e1'⟩ | exact K1 | exact K2 | exact K3 | exact K4 | exact K5)) (first
            | (have gg := C3; go_at_call 61; refine (rof_any z hz64 _).mono ?_; rintro e w6 ⟨v6, rfl, n6, hb6⟩; obtain ⟨a6, l6, c6, rfl⟩ := n6.form; have C4 := chain2 C3 hb6; have M6 := HG.out.below C4; have K4 := And.intro (kc hb6 K3.1) (kc hb6 K3.2); have u6 := cell_of_one M6.2.2.2.2.1; have f6 := free_of_one M6.2.2.2.2.1; have K5 : (w6.setCell ⟨w.heap.size + 1 + 1, 0, none⟩ (.slice a6 l6 c6)).cell? ⟨w.heap.size, 0, none⟩ = some (.slice ao la ca) ∧ (w6.setCell ⟨w.heap.size + 1 + 1, 0, none⟩ (.slice a6 l6 c6)).cell? ⟨w.heap.size + 1, 0, none⟩ = some (.slice bo lb cb) := And.intro (cell_of_one (box_set M6.2.2.1 (by omega) _)) (cell_of_one (box_set M6.2.2.2.1 (by omega) _)))
            | (have gg := C2; go_at_call 62; refine (HW.out _).mono ?_; rintro e w5 ⟨rfl, hb5⟩; have C3 := chain2 C2 hb5; have K3 := And.intro (kc hb5 K2.1) (kc hb5 K2.2))
            | (have gg := C1; go_at_call 63; refine (HWB.out _ C1).mono ?_; rintro e w4 ⟨rfl, hb4⟩; have C2 := chain2 C1 hb4; have K2 := And.intro (kc hb4 K1.1) (kc hb4 K1.2))
            | (have gg := C0; go_at_call 63; refine (HWA.out _ C0).mono ?_; rintro e w3 ⟨rfl, hb3⟩; have C1 := chain2 C0 hb3; have K1 := And.intro (kc hb3 e0') (kc hb3 e1')))
          have n7 := n6.box M6.2.2.2.2.1 (by decide) (.slice a6 l6 c6)
          have B7 := M6.2.2.2.2.2.1.setCell (p := ⟨w.heap.size + 1 + 1, 0, none⟩) (by show w.heap.size ≤ w.heap.size + 1 + 1; omega) (.slice a6 l6 c6)
          have c7 := cell_of_one (rone_set M6.2.2.2.2.1 (x := .slice a6 l6 c6))
          have n8 := n7.fit (show z < 1000000000 ^ K by have h := HG.out.2.1.lt; have h' := HZ.out; rw [← HE.out] at h'; exact h' ▸ Nat.lt_of_le_of_lt (Nat.gcd_le_right p h0) h)
          clear n7 n6 M6 C1 C2 C3 C4 K1 K2 K3 K4 K5 hb3 hb4 hb5 hb6 u6 f6 e0' e1'
          generalize w6.setCell ⟨w.heap.size + 1 + 1, 0, none⟩ (.slice a6 l6 c6) = X at *
          go_wp2
          exact bodyPost_ret (v := .agg #[.slice a6 l6 c6]) (by simp [results, Tryd.results15, go_sem, c7]) rfl ⟨_, rfl, by rw [← HZ.out]; exact n8, B7⟩
        · go_wp2_with fail
          refine (rdivmod_any wr _ _ p gk K K hK hK HG.out.1 HG.out.2.1 (by omega)).mono ?_
          rintro e w3 ⟨⟨q, r, rfl, hq, hr⟩, hb3⟩
          obtain ⟨pq, lq, cq, rfl⟩ := hq.form
          obtain ⟨pr, lr, cr, rfl⟩ := hr.form
          have HG3 := hid (HG.out.below hb3)
          have HR := hid hr
          have HZ := hid (rgcd_turn HG3.out HR.out HE.out h0 (Obj.cells #[Value.slice pq lq cq] 29))
          have HZX := HZ.out.2.2 _ rfl
          obtain ⟨h4, h5, h6, h7, h8, h9, h10⟩ := rgcd_cells HG3.out HR.out (Obj.cells #[Value.slice pq lq cq] 29)
          clear hq hr hb3 c0 c1 c2 f2
          go_wp2
          have HM := hid HZX
          clear h4 h5 h6 h7 h8 HZX
          generalize p % gk = rr at *
          go_roundg rr
          case rel => exact ⟨gk, _, _, _, _, _, _, HM, hid HZ.out.2.1⟩
          case measure => exact HZ.out.1
      · go_wp2_with fail
        refine (rdivmod_any wr _ _ p gk K K hK hK HG.out.1 HG.out.2.1 (by omega)).mono ?_
        rintro e w3 ⟨⟨q, r, rfl, hq, hr⟩, hb3⟩
        obtain ⟨pq, lq, cq, rfl⟩ := hq.form
        obtain ⟨pr, lr, cr, rfl⟩ := hr.form
        have HG3 := hid (HG.out.below hb3)
        have HR := hid hr
        have HZ := hid (rgcd_turn HG3.out HR.out HE.out h0 (Obj.cells #[Value.slice pq lq cq] 29))
        have HZX := HZ.out.2.2 _ rfl
        obtain ⟨h4, h5, h6, h7, h8, h9, h10⟩ := rgcd_cells HG3.out HR.out (Obj.cells #[Value.slice pq lq cq] 29)
        clear hq hr hb3 c0 c1 c2 f2
        go_wp2
        have HM := hid HZX
        clear h4 h5 h6 h7 h8 HZX
        generalize p % gk = rr at *
        go_roundg rr
        case rel => exact ⟨gk, _, _, _, _, _, _, HM, hid HZ.out.2.1⟩
        case measure => exact HZ.out.1
end Go.Proofs.YtciecncdejlkkaaDoor
