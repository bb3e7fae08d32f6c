/- Gcd: the greatest number that divides both. -/
import Derived.Test.YtciecncdejlkkaaDoorDivMod
namespace Go.Proofs.YtciecncdejlkkaaDoor
open Go.RowKit
set_option linter.unusedVariables false
set_option maxRecDepth 100000
set_option linter.unusedSimpArgs false

theorem NatIs.len {w : World} {ao : Option Addr} {l c n K : Nat} (h : NatIs w (.agg #[.slice ao l c]) n K) : ∃ L, Limbs w (.slice ao l c) L ∧ Bd L ∧ Top L ∧ val L = n ∧ L.length = l ∧ l ≤ K ∧ (l = 0 ↔ n = 0) := by
  obtain ⟨sl, L, h1, h2, h3, h4, h5, h6⟩ := h
  simp only [Value.agg.injEq] at h1
  have e : sl = .slice ao l c := by simpa using h1.symm
  subst e
  have hl : L.length = l := by
    obtain ⟨ao', c', e⟩ := h2.slice
    simp only [Value.slice.injEq] at e
    exact e.2.1.symm
  refine ⟨L, h2, h3, h4, h5, hl, by omega, ?_, ?_⟩
  · intro e; rw [← h5, List.eq_nil_of_length_eq_zero (by omega : L.length = 0)]; rfl
  · intro e
    rcases Nat.eq_zero_or_pos L.length with h | h
    · omega
    · exfalso
      have := val_ge_top L (L.length - 1) L.length rfl (by omega) (h4 (by omega))
      have := pow_pos32 (L.length - 1)
      omega
theorem one_set {w : World} {b : Nat} {u x : Value} {t : TypeId} (h : w.heap[b]? = some (.cells #[u] t (0, 0))) : (w.setCell ⟨b, 0, none⟩ x).heap[b]? = some (.cells #[x] t (0, 0)) := by
  have hlt := lt_of_block h
  have h' : w.heap[b] = .cells #[u] t (0, 0) := by simpa [Array.getElem?_eq_getElem hlt] using h
  show (w.heap.modify b _)[b]? = _
  simp [Array.getElem_modify, hlt, h']
def GcdMem (w : World) (K p k : Nat) (ao : Option Addr) (la ca : Nat) (bo : Option Addr) (lb cb : Nat) (wr : World) : Prop :=
  NatIs wr (.agg #[.slice ao la ca]) p K ∧ NatIs wr (.agg #[.slice bo lb cb]) k K ∧ wr.heap[w.heap.size]? = some (Obj.cells #[.slice ao la ca] 26) ∧ wr.heap[w.heap.size + 1]? = some (Obj.cells #[.slice bo lb cb] 26) ∧ wr.heap[w.heap.size + 1 + 1]? = some (Obj.cells #[.slice none 0 0] 26) ∧ Below w.heap.size w wr ∧ w.heap.size + 1 + 1 < wr.heap.size
theorem GcdMem.below {w : World} {K p k : Nat} {ao : Option Addr} {la ca : Nat} {bo : Option Addr} {lb cb : Nat} {wr X : World} (h : GcdMem w K p k ao la ca bo lb cb wr) (hb : Below wr.heap.size wr X) : GcdMem w K p k ao la ca bo lb cb X := by
  obtain ⟨h1, h2, h3, h4, h5, h6, h7⟩ := h
  have := hb.size
  exact ⟨h1.below hb, h2.below hb, box_below hb h3 (by omega), box_below hb h4 (by omega), box_below hb h5 (by omega), chain2 h6 hb, by omega⟩
theorem gcd_cells {w w3 : World} {K p k r : Nat} {ao bo pr : Option Addr} {la ca lb cb lr cr : Nat} (h : GcdMem w K p k ao la ca bo lb cb w3) (hr : NatIs w3 (.agg #[.slice pr lr cr]) r K) (o : Obj) :
    ((w3.alloc o).alloc (Obj.cells #[.slice pr lr cr] 26)).cell? ⟨w.heap.size, 0, none⟩ = some (.slice ao la ca) ∧ ((w3.alloc o).alloc (Obj.cells #[.slice pr lr cr] 26)).cell? ⟨w.heap.size + 1, 0, none⟩ = some (.slice bo lb cb) ∧ ((w3.alloc o).alloc (Obj.cells #[.slice pr lr cr] 26)).cell? ⟨w3.heap.size + 1, 0, none⟩ = some (.slice pr lr cr) ∧
    ((w3.alloc o).alloc (Obj.cells #[.slice pr lr cr] 26)).frozen? ⟨w.heap.size, 0, none⟩ = false ∧ ((w3.alloc o).alloc (Obj.cells #[.slice pr lr cr] 26)).frozen? ⟨w.heap.size + 1, 0, none⟩ = false ∧ w3.heap.size + 1 ≠ w.heap.size ∧ w3.heap.size + 1 ≠ w.heap.size + 1 := by
  obtain ⟨h1, h2, h3, h4, h5, h6, h7⟩ := h
  have b0 := box_alloc (box_alloc h3 o) (Obj.cells #[.slice pr lr cr] 26)
  have b1 := box_alloc (box_alloc h4 o) (Obj.cells #[.slice pr lr cr] 26)
  have b2 := boxed2_second w3 o (Obj.cells #[.slice pr lr cr] 26)
  exact ⟨cell_of_one b0, cell_of_one b1, cell_of_one b2, free_of_one b0, free_of_one b1, by omega, by omega⟩
theorem gcd_turn {w w3 : World} {K p k m n : Nat} {ao bo pr : Option Addr} {la ca lb cb lr cr : Nat} (h : GcdMem w K p k ao la ca bo lb cb w3) (hr : NatIs w3 (.agg #[.slice pr lr cr]) (p % k) K) (hg : Nat.gcd p k = Nat.gcd m n) (h0 : 0 < k) (o : Obj) :
    p % k < k ∧ Nat.gcd k (p % k) = Nat.gcd m n ∧ ∀ X, ((w3.alloc o).alloc (Obj.cells #[.slice pr lr cr] 26)) = X → GcdMem w K k (p % k) bo lb cb pr lr cr ((X.setCell ⟨w.heap.size, 0, none⟩ (.slice bo lb cb)).setCell ⟨w.heap.size + 1, 0, none⟩ (.slice pr lr cr)) := by
  obtain ⟨h1, h2, h3, h4, h5, h6, h7⟩ := h
  refine ⟨Nat.mod_lt _ h0, by rw [← hg, Nat.gcd_comm k, ← Nat.gcd_rec, Nat.gcd_comm], ?_⟩
  rintro X rfl
  have B0 : Below w3.heap.size w3 ((w3.alloc o).alloc (Obj.cells #[.slice pr lr cr] 26)) := boxed2 (Below.refl _ _) _ _
  have b0 := box_below B0 h3 (by omega)
  have b1 := box_below B0 h4 (by omega)
  have b2 := box_below B0 h5 (by omega)
  have s0 := B0.size
  generalize ((w3.alloc o).alloc (Obj.cells #[.slice pr lr cr] 26)) = X at *
  have b1' := box_set b1 (show w.heap.size + 1 ≠ w.heap.size by omega) (.slice bo lb cb)
  refine ⟨((h2.below B0).box b0 (by decide) _).box b1' (by decide) _, ((hr.below B0).box b0 (by decide) _).box b1' (by decide) _, ?_, ?_, ?_, ?_, ?_⟩
  · exact box_set (one_set b0) (by omega) _
  · exact one_set b1'
  · exact box_set (box_set b2 (by omega) _) (by omega) _
  · exact ((chain2 h6 B0).setCell (p := ⟨w.heap.size, 0, none⟩) (Nat.le_refl _) _).setCell (p := ⟨w.heap.size + 1, 0, none⟩) (by show w.heap.size ≤ w.heap.size + 1; omega) _
  · have : ((X.setCell ⟨w.heap.size, 0, none⟩ (.slice bo lb cb)).setCell ⟨w.heap.size + 1, 0, none⟩ (.slice pr lr cr)).heap.size = X.heap.size := by simp
    omega
set_option maxHeartbeats 2000000 in
theorem gcd_any (w : World) (a b : Value) (m n K : Nat) (hK : K ≤ 1000000000) (ha : NatIs w a m K) (hb : NatIs w b n K) :
    Calls Tryd.prog 14 #[a, b] w fun e w' => ∃ v, e = .returned v ∧ NatIs w' v (Nat.gcd m n) K ∧ Below w.heap.size w w' := by
  obtain ⟨ao0, la0, ca0, rfl⟩ := ha.form
  obtain ⟨bo0, lb0, cb0, rfl⟩ := hb.form
  go_enter Tryd.func14, Tryd.ntmps14
  go_wp2
  have B3 := boxed3 (Below.refl w.heap.size w) (Obj.cells #[Value.slice ao0 la0 ca0] 26) (Obj.cells #[Value.slice bo0 lb0 cb0] 26) (Obj.cells #[Value.slice none 0 0] 26)
  have b0 := boxed3_first w (Obj.cells #[Value.slice ao0 la0 ca0] 26) (Obj.cells #[Value.slice bo0 lb0 cb0] 26) (Obj.cells #[Value.slice none 0 0] 26)
  have b1 := boxed3_second w (Obj.cells #[Value.slice ao0 la0 ca0] 26) (Obj.cells #[Value.slice bo0 lb0 cb0] 26) (Obj.cells #[Value.slice none 0 0] 26)
  have b2 := boxed3_third w (Obj.cells #[Value.slice ao0 la0 ca0] 26) (Obj.cells #[Value.slice bo0 lb0 cb0] 26) (Obj.cells #[Value.slice none 0 0] 26)
  have s3 : w.heap.size + 1 + 1 < (((w.alloc (Obj.cells #[Value.slice ao0 la0 ca0] 26)).alloc (Obj.cells #[Value.slice bo0 lb0 cb0] 26)).alloc (Obj.cells #[Value.slice none 0 0] 26)).heap.size := by simp
  generalize ((w.alloc (Obj.cells #[Value.slice ao0 la0 ca0] 26)).alloc (Obj.cells #[Value.slice bo0 lb0 cb0] 26)).alloc (Obj.cells #[Value.slice none 0 0] 26) = W at *
  have G0 := hid (show GcdMem w K m n ao0 la0 ca0 bo0 lb0 cb0 W from ⟨ha.below B3, hb.below B3, b0, b1, b2, B3, s3⟩)
  clear B3 b0 b1 b2 s3 ha hb
  go_loopg [] n (fun k wr => ∃ p ao la ca bo lb cb, Hid (GcdMem w K p k ao la ca bo lb cb wr) ∧ Hid (Nat.gcd p k = Nat.gcd m n))
  case atStart => exact ⟨m, _, _, _, _, _, _, G0, hid rfl⟩
  case round =>
    obtain ⟨p, ao, la, ca, bo, lb, cb, HG, HE⟩ := hrel
    have c0 := cell_of_one HG.out.2.2.1
    have c1 := cell_of_one HG.out.2.2.2.1
    have c2 := cell_of_one HG.out.2.2.2.2.1
    have f2 := free_of_one HG.out.2.2.2.2.1
    obtain ⟨LB, oB, bB, tB, vB, lB, kB, zB⟩ := HG.out.2.1.len
    obtain ⟨LA, oA, bA, tA, vA, lA, kA, zA⟩ := HG.out.1.len
    rcases Nat.eq_zero_or_pos gk with h0 | h0
    · have hl0 : lb = 0 := zB.2 h0
      subst hl0
      subst h0
      have hE := HE.out
      rw [Nat.gcd_zero_right] at hE
      have HE' := hid hE
      clear hE HE zA zB vA vB lA lB
      go_wp2_with fail
      refine (copied_any wr _ p K hK HG.out.1).mono ?_
      rintro e w1 ⟨v, rfl, hv, hb⟩
      obtain ⟨a1, l1, k1, rfl⟩ := hv.form
      have x2 := box_below hb HG.out.2.2.2.2.1 (by have := HG.out.2.2.2.2.2.2; omega)
      have u2 := cell_of_one x2
      have g2 := free_of_one x2
      have n2 := hv.box x2 (by decide) (.slice a1 l1 k1)
      have B2 := (chain2 HG.out.2.2.2.2.2.1 hb).setCell (p := ⟨w.heap.size + 1 + 1, 0, none⟩) (by show w.heap.size ≤ w.heap.size + 1 + 1; omega) (.slice a1 l1 k1)
      clear hv hb x2 c0 c1 c2 f2
      go_wp2
      exact bodyPost_ret (v := .agg #[.slice a1 l1 k1]) (by simp [results, Tryd.results14, go_sem, u2]) rfl ⟨_, rfl, by rw [← HE'.out]; exact n2, B2⟩
    · have hlb : 0 < (lb : Int) := by have := zB.1; omega
      have hla1 : la ≤ 1000000000 := by omega
      have hlb1 : lb ≤ 1000000000 := by omega
      have HL := hid (And.intro (And.intro vA lA) (And.intro vB lB))
      clear zA zB vA vB lA lB
      go_wp2_with fail
      refine (fits_any wr ao la ca hla1).mono ?_
      rintro e w1 ⟨rfl, hb1⟩
      have HG1 := hid (HG.out.below hb1)
      have d0 := cell_of_one HG1.out.2.2.1
      have d1 := cell_of_one HG1.out.2.2.2.1
      clear c0 c1 c2 f2
      by_cases h2 : la ≤ 2
      · rw [show decide (la ≤ 2) = true by simp [h2]]
        go_wp2_with fail
        refine (fits_any w1 bo lb cb hlb1).mono ?_
        rintro e w2 ⟨rfl, hb2⟩
        have HG2 := hid (HG1.out.below hb2)
        have e0 := cell_of_one HG2.out.2.2.1
        have e1 := cell_of_one HG2.out.2.2.2.1
        clear d0 d1
        by_cases h3 : lb ≤ 2
        · rw [show decide (lb ≤ 2) = true by simp [h3]]
          have hx64 : p < 18446744073709551616 := by
            have h := val_lt bA
            rw [HL.out.1.1, HL.out.1.2] at h
            exact Nat.lt_of_lt_of_le h (Nat.le_trans (Nat.pow_le_pow_right (by decide) h2) (by decide))
          have hy64 : gk < 18446744073709551616 := by
            have h := val_lt bB
            rw [HL.out.2.1, HL.out.2.2] at h
            exact Nat.lt_of_lt_of_le h (Nat.le_trans (Nat.pow_le_pow_right (by decide) h3) (by decide))
          have hz64 : Nat.gcd p gk < 18446744073709551616 := Nat.lt_of_le_of_lt (Nat.gcd_le_right p h0) hy64
          have HWA := hid (fun w' (h' : Below wr.heap.size wr w') => word_any w' ao la ca LA bA (oA.below h') (by rw [HL.out.1.2]; exact h2))
          have HWB := hid (fun w' (h' : Below wr.heap.size wr w') => word_any w' bo lb cb LB bB (oB.below h') (by rw [HL.out.2.2]; exact h3))
          rw [HL.out.1.1] at HWA
          rw [HL.out.2.1] at HWB
          have C0 : Below wr.heap.size wr w2.drew := (chain2 hb1 hb2).drew
          have M0 := hid (show GcdMem w K p gk ao la ca bo lb cb w2.drew from HG.out.below C0)
          have e0' : w2.drew.cell? ⟨w.heap.size, 0, none⟩ = some (.slice ao la ca) := e0
          have e1' : w2.drew.cell? ⟨w.heap.size + 1, 0, none⟩ = some (.slice bo lb cb) := e1
          obtain ⟨z, hze⟩ : ∃ z, Nat.gcd p gk = z := ⟨_, rfl⟩
          have HW := hid (fun w' => gcdw_any w' p gk hx64 hy64)
          rw [hze] at hz64 HW
          have HZ := hid (hze.symm.trans HE.out)
          clear hze oA oB bA bB tA tB
          go_wp2
          go_region_held3 (fun w' => w'.cell? ⟨w.heap.size, 0, none⟩ = some (.slice ao la ca) ∧ w'.cell? ⟨w.heap.size + 1, 0, none⟩ = some (.slice bo lb cb)) ((first | exact ⟨e0', e1'⟩ | exact K1 | exact K2 | exact K3 | exact K4 | exact K5)) (first
            | (have gg := C3; go_at_call 44; refine (of_any z hz64 _).mono ?_; rintro e w6 ⟨v6, rfl, n6, hb6⟩; obtain ⟨a6, l6, c6, rfl⟩ := n6.form; have C4 := chain2 C3 hb6; have M6 := HG.out.below C4; have K4 := And.intro (kcell hb6 K3.1) (kcell hb6 K3.2); have u6 := cell_of_one M6.2.2.2.2.1; have f6 := free_of_one M6.2.2.2.2.1; have K5 : (w6.setCell ⟨w.heap.size + 1 + 1, 0, none⟩ (.slice a6 l6 c6)).cell? ⟨w.heap.size, 0, none⟩ = some (.slice ao la ca) ∧ (w6.setCell ⟨w.heap.size + 1 + 1, 0, none⟩ (.slice a6 l6 c6)).cell? ⟨w.heap.size + 1, 0, none⟩ = some (.slice bo lb cb) := And.intro (cell_of_one (box_set M6.2.2.1 (by omega) _)) (cell_of_one (box_set M6.2.2.2.1 (by omega) _)))
            | (have gg := C2; go_at_call 60; refine (HW.out _).mono ?_; rintro e w5 ⟨rfl, hb5⟩; have C3 := chain2 C2 hb5; have K3 := And.intro (kcell hb5 K2.1) (kcell hb5 K2.2))
            | (have gg := C1; go_at_call 43; refine (HWB.out _ C1).mono ?_; rintro e w4 ⟨rfl, hb4⟩; have C2 := chain2 C1 hb4; have K2 := And.intro (kcell hb4 K1.1) (kcell hb4 K1.2))
            | (have gg := C0; go_at_call 43; refine (HWA.out _ C0).mono ?_; rintro e w3 ⟨rfl, hb3⟩; have C1 := chain2 C0 hb3; have K1 := And.intro (kcell hb3 e0') (kcell hb3 e1')))
          have n7 := n6.box M6.2.2.2.2.1 (by decide) (.slice a6 l6 c6)
          have B7 := M6.2.2.2.2.2.1.setCell (p := ⟨w.heap.size + 1 + 1, 0, none⟩) (by show w.heap.size ≤ w.heap.size + 1 + 1; omega) (.slice a6 l6 c6)
          have c7 := cell_of_one (one_set M6.2.2.2.2.1 (x := .slice a6 l6 c6))
          have n8 := n7.fit (show z < 4294967296 ^ K by have h := HG.out.2.1.lt; have h' := HZ.out; rw [← HE.out] at h'; exact h' ▸ Nat.lt_of_le_of_lt (Nat.gcd_le_right p h0) h)
          clear n7 n6 M6 C1 C2 C3 C4 K1 K2 K3 K4 K5 hb3 hb4 hb5 hb6 u6 f6 e0 e1 e0' e1'
          generalize w6.setCell ⟨w.heap.size + 1 + 1, 0, none⟩ (.slice a6 l6 c6) = X at *
          go_wp2
          exact bodyPost_ret (v := .agg #[.slice a6 l6 c6]) (by simp [results, Tryd.results14, go_sem, c7]) rfl ⟨_, rfl, by rw [← HZ.out]; exact n8, B7⟩
        · rw [show decide (lb ≤ 2) = false by simp [h3]]
          go_wp2_with fail
          refine (divmod_any w2 _ _ p gk K K hK hK HG2.out.1 HG2.out.2.1 (by omega)).mono ?_
          rintro e w3 ⟨⟨q, r, rfl, hq, hr⟩, hb3⟩
          obtain ⟨pq, lq, cq, rfl⟩ := hq.form
          obtain ⟨pr, lr, cr, rfl⟩ := hr.form
          have HG3 := hid (HG2.out.below hb3)
          have g0 := cell_of_one HG3.out.2.2.1
          have g1 := cell_of_one HG3.out.2.2.2.1
          have HR := hid hr
          clear hq hr hb3 e0 e1
          go_wp2
          have HZ := hid (gcd_turn HG3.out HR.out HE.out h0 (Obj.cells #[Value.slice pq lq cq] 26))
          have HZX := HZ.out.2.2 _ rfl
          have hX := gcd_cells HG3.out HR.out (Obj.cells #[Value.slice pq lq cq] 26)
          obtain ⟨h4, h5, h6, h7, h8, h9, h10⟩ := hX
          generalize ((w3.alloc (Obj.cells #[Value.slice pq lq cq] 26)).alloc (Obj.cells #[Value.slice pr lr cr] 26)) = X at *
          generalize w3.heap.size + 1 = y at *
          clear g0 g1
          go_region
          all_goals
            have HM := hid HZX
            clear h4 h5 h6 h7 h8
            generalize p % gk = rr at *
            go_wp2
            go_roundg rr
            case rel => exact ⟨gk, _, _, _, _, _, _, hid (HM.out.below (Below.refl _ _).drew), hid HZ.out.2.1⟩
            case measure => exact HZ.out.1
      · rw [show decide (la ≤ 2) = false by simp [h2]]
        go_wp2_with fail
        refine (divmod_any w1 _ _ p gk K K hK hK HG1.out.1 HG1.out.2.1 (by omega)).mono ?_
        rintro e w3 ⟨⟨q, r, rfl, hq, hr⟩, hb3⟩
        obtain ⟨pq, lq, cq, rfl⟩ := hq.form
        obtain ⟨pr, lr, cr, rfl⟩ := hr.form
        have HG3 := hid (HG1.out.below hb3)
        have g0 := cell_of_one HG3.out.2.2.1
        have g1 := cell_of_one HG3.out.2.2.2.1
        have HR := hid hr
        clear hq hr hb3 d0 d1
        go_wp2
        have HZ := hid (gcd_turn HG3.out HR.out HE.out h0 (Obj.cells #[Value.slice pq lq cq] 26))
        have HZX := HZ.out.2.2 _ rfl
        have hX := gcd_cells HG3.out HR.out (Obj.cells #[Value.slice pq lq cq] 26)
        obtain ⟨h4, h5, h6, h7, h8, h9, h10⟩ := hX
        generalize ((w3.alloc (Obj.cells #[Value.slice pq lq cq] 26)).alloc (Obj.cells #[Value.slice pr lr cr] 26)) = X at *
        generalize w3.heap.size + 1 = y at *
        clear g0 g1
        go_region
        all_goals
          have HM := hid HZX
          clear h4 h5 h6 h7 h8
          generalize p % gk = rr at *
          go_wp2
          go_roundg rr
          case rel => exact ⟨gk, _, _, _, _, _, _, hid (HM.out.below (Below.refl _ _).drew), hid HZ.out.2.1⟩
          case measure => exact HZ.out.1
end Go.Proofs.YtciecncdejlkkaaDoor
