/- rat: Parse. -/
import Derived.Test.YtjldlmonccgopaaGreatDoorPk31
import Derived.Test.YtjldlmonccgopaaGreatDoorPk14
namespace Go.Proofs.YtjldlmonccgopaaGreatDoor
open Go.RowKit
set_option linter.unusedVariables false
set_option maxRecDepth 100000
set_option linter.unusedSimpArgs false
attribute [local go_sem ↓] Go.wp_at_zero Go.wp_at_succ

/-- The library's own variable is some number. -/
def Mx (w : World) : Prop := ∃ m, w.cell? ⟨0, 0, none⟩ = some (.int .i64 m)
theorem Mx.below {w w' : World} (h : Mx w) (hb : Below w.heap.size w w') : Mx w' := by
  obtain ⟨m, hm⟩ := h
  exact ⟨m, (hb.cell (World.block_lt_of_cell? _ _ hm)).trans hm⟩
theorem cut_any (s : ByteArray) (w : World) (hs : s.size ≤ 100000) (hm : Mx w) :
    Calls Tryz.prog 50 #[.string s, .string ⟨#[47]⟩] w fun e w' => (∃ p u, CutAt s p ∧ e = .returned (.tuple #[.string (s.extract 0 p), .string u, .bool (decide (p < s.size))]) ∧ (p < s.size → u = underT s p) ∧ (¬ p < s.size → underT s p = ⟨#[49]⟩)) ∧ Below w.heap.size w w' := by
  obtain ⟨m, hm⟩ := hm
  refine (Tryz.strings_Cut s ⟨#[47]⟩ m w (by omega) hm).mono ?_
  rintro e w' ⟨rfl, n, rfl⟩
  obtain ⟨p, h1, h2, h3, h4⟩ := cut_bar s
  exact ⟨⟨p, _, h1, by rw [h2, h4], fun h => by unfold underT; rw [if_pos h]; exact h3 h, fun h => by unfold underT; rw [if_neg h]⟩, below_drewN (Below.refl _ _) n⟩
theorem p4_free {w : World} {b : Nat} {x0 x1 x2 x3 : Value} {t : TypeId} (h : w.heap[b]? = some (.cells #[x0, x1, x2, x3] t (0, 0))) (k : Nat) : w.frozen? ⟨b, k, none⟩ = false := by simp [World.frozen?, h]
theorem p4_set {w : World} {r : Nat} {t : TypeId} {y0 y1 y2 y3 : Value} (h : w.heap[r]? = some (.cells #[y0, y1, y2, y3] t (0, 0))) (x0 x1 x2 x3 : Value) : ((((w.setCell ⟨r, 0, none⟩ x0).setCell ⟨r, 1, none⟩ x1).setCell ⟨r, 2, none⟩ x2).setCell ⟨r, 3, none⟩ x3).heap[r]? = some (.cells #[x0, x1, x2, x3] t (0, 0)) := by
  have hlt := lt_of_block h
  have h' : w.heap[r] = .cells #[y0, y1, y2, y3] t (0, 0) := by simpa [Array.getElem?_eq_getElem hlt] using h
  simp [World.setCell, Array.getElem_modify, hlt, h']
theorem p4_below {B b : Nat} {w X : World} (h : Below B w X) (hB : B ≤ b) (v0 v1 v2 v3 : Value) : Below B w ((((X.setCell ⟨b, 0, none⟩ v0).setCell ⟨b, 1, none⟩ v1).setCell ⟨b, 2, none⟩ v2).setCell ⟨b, 3, none⟩ v3) :=
  (((h.setCell (p := ⟨b, 0, none⟩) hB _).setCell (p := ⟨b, 1, none⟩) hB _).setCell (p := ⟨b, 2, none⟩) hB _).setCell (p := ⟨b, 3, none⟩) hB _
set_option maxHeartbeats 4000000 in
theorem qparse_any (s : ByteArray) (w : World) (hs : s.size ≤ 100000) (hm : Mx w) (htab : Tab w) :
    Calls Tryz.prog 23 #[.string s] w fun e w' => ((∃ n d v, Can s n d ∧ e = .returned (.tuple #[v, .int .i64 0]) ∧ RatIs w' v n d (s.size / 9 + 8)) ∨ ((∀ n d, ¬ Can s n d) ∧ e = .returned (.tuple #[.agg #[.slice none 0 0, .bool false, .slice none 0 0, .bool false], .int .i64 10]))) ∧ Below w.heap.size w w' := by
  go_enter Tryz.func23, Tryz.ntmps23
  go_wp2_with fail
  have r0 := box_new w (Obj.cells #[.slice none 0 0, .bool false, .slice none 0 0, .bool false] 29)
  have b0 := (Below.refl w.heap.size w).alloc (Nat.le_refl _) (Obj.cells #[.slice none 0 0, .bool false, .slice none 0 0, .bool false] 29)
  generalize w.alloc (Obj.cells #[Value.slice none 0 0, .bool false, .slice none 0 0, .bool false] 29) = W at *
  refine (cut_any s W hs (hm.below b0)).mono ?_
  rintro e w1 ⟨⟨p, u, hcut, rfl, hu1, hu2⟩, b1⟩
  have hA : (s.extract 0 p).size ≤ s.size := by rw [ByteArray.size_extract]; omega
  have hU := under_size (s := s) (p := p)
  have HC := hid hcut
  obtain ⟨A, hAe⟩ : ∃ A, A = s.extract 0 p := ⟨_, rfl⟩
  obtain ⟨U, hUe⟩ : ∃ U, U = underT s p := ⟨_, rfl⟩
  rw [← hAe] at hA ⊢
  rw [← hUe] at hu1 hu2 hU
  have HAU := hid (And.intro hAe hUe)
  clear hAe hUe hcut
  have r1 := (b1.block _ (lt_of_block r0)).trans r0
  have B1 := chain2 b0 b1
  have hpa := fun v => nparse_both A v (by omega)
  have hpu := fun v => nparse_both U v (by omega)
  clear r0 b0 b1
  have HT := htab
  rcases (show p < s.size ∨ ¬ p < s.size by omega) with hp | hp
  case' inl =>
    rw [decide_eq_true hp]
    obtain rfl := hu1 hp
  case' inr =>
    rw [decide_eq_false hp]
    have e := hu2 hp
    subst e
  all_goals
    clear hu1 hu2 hp
    go_wp2_with fail
    refine (hpa w1).mono ?_
    rintro e w2 ⟨ao, l, c, d, rfl, hna, b2⟩
    have r2 := (b2.block _ (lt_of_block r1)).trans r1
    have B2 := chain2 B1 b2
    have t0 := box_new w2 (Obj.cells #[.slice ao l c, .bool d] 27)
    have b3 := (Below.refl w2.heap.size w2).alloc (Nat.le_refl _) (Obj.cells #[.slice ao l c, .bool d] 27)
    go_wp2_with fail
    generalize w2.alloc (Obj.cells #[.slice ao l c, .bool d] 27) = w3 at *
    have r3 := (b3.block _ (lt_of_block r2)).trans r2
    have B3 := chain2 B2 b3
    refine (hpu w3).mono ?_
    rintro e w4 ⟨ao2, l2, c2, d2, rfl, hnb, b4⟩
    have r4 := (b4.block _ (lt_of_block r3)).trans r3
    have t4 := (b4.block _ (lt_of_block t0)).trans t0
    have B4 := chain2 B3 b4
    have u0 := box_new w4 (Obj.cells #[.slice ao2 l2 c2, .bool d2] 27)
    have b5 := (Below.refl w4.heap.size w4).alloc (Nat.le_refl _) (Obj.cells #[.slice ao2 l2 c2, .bool d2] 27)
    have hlt1 : w.heap.size < w2.heap.size := lt_of_block r2
    have hlt2 : w2.heap.size < w4.heap.size := lt_of_block t4
    have B5 := chain2 B4 b5
    have r5 := (b5.block _ (lt_of_block r4)).trans r4
    have t5 := (b5.block _ (lt_of_block t4)).trans t4
    clear r1 r2 r3 t0 t4 hpa hpu
    have hcase : (zE A = 10 ∧ ∀ n d, ¬ Can s n d) ∨ (zE A = 0 ∧ ∃ x, ZTx A x) := by
      rcases zE_cases A with ⟨k1, k2⟩ | k1
      · exact Or.inr ⟨k1, k2⟩
      · refine Or.inl ⟨k1, can_no HC.out (Or.inl fun x hx => ?_)⟩
        rw [← HAU.out.1] at hx
        have : zE A = 0 := by unfold zE; rw [if_pos ⟨x, hx⟩]
        omega
    have hcase2 : (zE (underT s p) = 10 ∧ ∀ n d, ¬ Can s n d) ∨ (zE (underT s p) = 0 ∧ ∃ y, ZTx (underT s p) y) := by
      rcases zE_cases (underT s p) with ⟨k1, k2⟩ | k1
      · exact Or.inr ⟨k1, k2⟩
      · refine Or.inl ⟨k1, can_no HC.out (Or.inr fun x hx => ?_)⟩
        have : zE (underT s p) = 0 := by unfold zE; rw [if_pos ⟨x, hx⟩]
        omega
    rcases hcase with ⟨k1, k2⟩ | ⟨k1, x, hx⟩
    · rw [k1]
      clear hcase2
      have HK := hid k2
      clear k1 k2 hna hnb
      obtain ⟨x0, x1, x2, x3⟩ := four_cell r5
      have fr := p4_free r5
      have g := four_cell (p4_set r5 (.slice none 0 0) (.bool false) (.slice none 0 0) (.bool false))
      have B6 := p4_below B5 (Nat.le_refl _) (.slice none 0 0) (.bool false) (.slice none 0 0) (.bool false)
      obtain ⟨g0, g1, g2, g3⟩ := g
      have v4 := p4_set r4 (.slice none 0 0) (.bool false) (.slice none 0 0) (.bool false)
      have B7 := (p4_below B4 (Nat.le_refl _) (.slice none 0 0) (.bool false) (.slice none 0 0) (.bool false)).alloc (p4_below B4 (Nat.le_refl _) (.slice none 0 0) (.bool false) (.slice none 0 0) (.bool false)).size (Obj.cells #[.slice ao2 l2 c2, .bool d2] 27)
      have v5 := four_cell ((Below.heap_alloc _ (Obj.cells #[.slice ao2 l2 c2, .bool d2] 27) _ (lt_of_block v4)).trans v4)
      obtain ⟨y0, y1, y2, y3⟩ := v5
      go_wp2
      refine bodyPost_ret (v := .tuple #[.agg #[.slice none 0 0, .bool false, .slice none 0 0, .bool false], .int .i64 10]) ?_ rfl ⟨Or.inr ⟨HK.out, rfl⟩, ?_⟩
      · simp [results, Tryz.results23, go_sem, g0, g1, g2, g3, y0, y1, y2, y3]
      · first | exact B6 | exact B7
    · rw [k1]
      clear k1
      rcases hcase2 with ⟨k1, k2⟩ | ⟨k1, y, hy⟩
      · rw [← HAU.out.2] at k1
        rw [k1]
        have HK := hid k2
        clear k1 k2 hna hnb
        obtain ⟨x0, x1, x2, x3⟩ := four_cell r5
        have fr := p4_free r5
        have g := four_cell (p4_set r5 (.slice none 0 0) (.bool false) (.slice none 0 0) (.bool false))
        have B6 := p4_below B5 (Nat.le_refl _) (.slice none 0 0) (.bool false) (.slice none 0 0) (.bool false)
        obtain ⟨g0, g1, g2, g3⟩ := g
        have v4 := p4_set r4 (.slice none 0 0) (.bool false) (.slice none 0 0) (.bool false)
        have B7 := (p4_below B4 (Nat.le_refl _) (.slice none 0 0) (.bool false) (.slice none 0 0) (.bool false)).alloc (p4_below B4 (Nat.le_refl _) (.slice none 0 0) (.bool false) (.slice none 0 0) (.bool false)).size (Obj.cells #[.slice ao2 l2 c2, .bool d2] 27)
        have v5 := four_cell ((Below.heap_alloc _ (Obj.cells #[.slice ao2 l2 c2, .bool d2] 27) _ (lt_of_block v4)).trans v4)
        obtain ⟨y0, y1, y2, y3⟩ := v5
        go_wp2
        refine bodyPost_ret (v := .tuple #[.agg #[.slice none 0 0, .bool false, .slice none 0 0, .bool false], .int .i64 10]) ?_ rfl ⟨Or.inr ⟨HK.out, rfl⟩, ?_⟩
        · simp [results, Tryz.results23, go_sem, g0, g1, g2, g3, y0, y1, y2, y3]
        · first | exact B6 | exact B7
      · rw [← HAU.out.2] at k1
        rw [k1]
        clear k1
        have Nx := (hna x hx).mono (show A.size / 9 + 1 ≤ s.size / 9 + 2 by omega)
        have Ny : NumIs w4 (.agg #[.slice ao2 l2 c2, .bool d2]) y (s.size / 9 + 2) := by
          have := hnb y (by rw [HAU.out.2]; exact hy)
          exact this.mono (by omega)
        have Nx5 := Nx.below (chain2 (chain2 b3 b4) b5)
        have Ny5 := Ny.below b5
        clear hna hnb Nx Ny
        obtain ⟨x0, x1, x2, x3⟩ := four_cell r5
        have p0 := two_cell0 t5
        have p1 := two_cell1 t5
        have q0 := two_cell0 u0
        have q1 := two_cell1 u0
        go_wp2_with fail
        refine (qmake_any _ _ _ x y (s.size / 9 + 2) (by omega) Nx5 Ny5).mono ?_
        rintro e w6 ⟨⟨a6, m6, c6, d6, a7, m7, c7, d7, rfl, R6⟩, b6⟩
        have r6 := (b6.block _ (lt_of_block r5)).trans r5
        have B6 := chain2 B5 b6
        clear x0 x1 x2 x3 p0 p1 q0 q1 r5 t5 u0 Nx5 Ny5 b6 B5 b5 r4 B4
        have f0 := box_new w6 (Obj.cells #[.slice a6 m6 c6, .bool d6, .slice a7 m7 c7, .bool d7] 29)
        have b7 := (Below.refl w6.heap.size w6).alloc (Nat.le_refl _) (Obj.cells #[.slice a6 m6 c6, .bool d6, .slice a7 m7 c7, .bool d7] 29)
        have B7 := chain2 B6 b7
        have R7 := R6.below b7
        have r7 := (b7.block _ (lt_of_block r6)).trans r6
        have T7 := htab.below B7
        clear R6
        by_cases h0 : y = 0
        · subst h0
          rw [show mkE 0 = 12 from rfl]
          have HK := hid (can_zero HC.out hy)
          obtain ⟨x0, x1, x2, x3⟩ := four_cell r7
          have fr := p4_free r7
          have g := four_cell (p4_set r7 (.slice none 0 0) (.bool false) (.slice none 0 0) (.bool false))
          have B8 := p4_below B7 (Nat.le_refl _) (.slice none 0 0) (.bool false) (.slice none 0 0) (.bool false)
          obtain ⟨g0, g1, g2, g3⟩ := g
          have v4 := p4_set r6 (.slice none 0 0) (.bool false) (.slice none 0 0) (.bool false)
          have B9 := (p4_below B6 (Nat.le_refl _) (.slice none 0 0) (.bool false) (.slice none 0 0) (.bool false)).alloc (p4_below B6 (Nat.le_refl _) (.slice none 0 0) (.bool false) (.slice none 0 0) (.bool false)).size (Obj.cells #[.slice a6 m6 c6, .bool d6, .slice a7 m7 c7, .bool d7] 29)
          have v5 := four_cell ((Below.heap_alloc _ (Obj.cells #[.slice a6 m6 c6, .bool d6, .slice a7 m7 c7, .bool d7] 29) _ (lt_of_block v4)).trans v4)
          obtain ⟨y0, y1, y2, y3⟩ := v5
          clear R7
          go_wp2
          refine bodyPost_ret (v := .tuple #[.agg #[.slice none 0 0, .bool false, .slice none 0 0, .bool false], .int .i64 10]) ?_ rfl ⟨Or.inr ⟨HK.out, rfl⟩, ?_⟩
          · simp [results, Tryz.results23, go_sem, g0, g1, g2, g3, y0, y1, y2, y3]
          · first | exact B8 | exact B9
        · rw [show mkE y = 0 by unfold mkE; rw [if_neg h0]]
          rw [mkN, if_neg h0, mkD, if_neg h0] at R7
          obtain ⟨x0, x1, x2, x3⟩ := four_cell f0
          go_wp2_with fail
          refine (qtext_any _ _ _ _ _ (by omega) R7 T7).mono ?_
          rintro e w8 ⟨⟨t, rfl, ht⟩, b8⟩
          obtain ⟨G1, G2⟩ := can_gen HC.out (show ZTx (s.extract 0 p) x by rw [← HAU.out.1]; exact hx) hy h0 ht
          have f8 := (b8.block _ (lt_of_block f0)).trans f0
          have r8 := (b8.block _ (lt_of_block r7)).trans r7
          have B8 := chain2 B7 b8
          have R8 := R7.below b8
          have hne : w.heap.size ≠ w6.heap.size := by have := lt_of_block r6; omega
          clear f0 r7 B7 R7 T7 x0 x1 x2 x3 b7 b8 hy hx ht
          generalize w6.heap.size = k at *
          by_cases ht2 : t = s
          · have HK := hid (G1 ht2)
            subst ht2
            obtain ⟨x0, x1, x2, x3⟩ := four_cell r8
            obtain ⟨z0, z1, z2, z3⟩ := four_cell f8
            have fr := p4_free r8
            have g := four_cell (p4_set r8 (.slice a6 m6 c6) (.bool d6) (.slice a7 m7 c7) (.bool d7))
            have B9 := p4_below B8 (Nat.le_refl _) (.slice a6 m6 c6) (.bool d6) (.slice a7 m7 c7) (.bool d7)
            have R9 := R8.set (w' := (((w8.setCell ⟨w.heap.size, 0, none⟩ (.slice a6 m6 c6)).setCell ⟨w.heap.size, 1, none⟩ (.bool d6)).setCell ⟨w.heap.size, 2, none⟩ (.slice a7 m7 c7)).setCell ⟨w.heap.size, 3, none⟩ (.bool d7)) r8 (fun b hb => by rw [Below.heap_setCell _ _ _ b hb, Below.heap_setCell _ _ _ b hb, Below.heap_setCell _ _ _ b hb, Below.heap_setCell _ _ _ b hb])
            obtain ⟨g0, g1, g2, g3⟩ := g
            clear G1 G2
            go_wp2
            refine bodyPost_ret (v := .tuple #[.agg #[.slice a6 m6 c6, .bool d6, .slice a7 m7 c7, .bool d7], .int .i64 0]) ?_ rfl ⟨Or.inl ⟨_, _, _, HK.out, rfl, R9.mono (by omega)⟩, ?_⟩
            · simp [results, Tryz.results23, go_sem, g0, g1, g2, g3]
            · exact B9
          · have HK := hid (G2 ht2)
            have hb1 : (t.toList == s.toList) = false := beq_eq_false_iff_ne.2 fun h => ht2 (tlq_inj h)
            obtain ⟨x0, x1, x2, x3⟩ := four_cell r8
            have fr := p4_free r8
            have g := four_cell (p4_set r8 (.slice none 0 0) (.bool false) (.slice none 0 0) (.bool false))
            have B9 := p4_below B8 (Nat.le_refl _) (.slice none 0 0) (.bool false) (.slice none 0 0) (.bool false)
            obtain ⟨g0, g1, g2, g3⟩ := g
            clear G1 G2 R8
            go_wp2
            refine bodyPost_ret (v := .tuple #[.agg #[.slice none 0 0, .bool false, .slice none 0 0, .bool false], .int .i64 10]) ?_ rfl ⟨Or.inr ⟨HK.out, rfl⟩, ?_⟩
            · simp [results, Tryz.results23, go_sem, g0, g1, g2, g3]
            · exact B9
end Go.Proofs.YtjldlmonccgopaaGreatDoor
