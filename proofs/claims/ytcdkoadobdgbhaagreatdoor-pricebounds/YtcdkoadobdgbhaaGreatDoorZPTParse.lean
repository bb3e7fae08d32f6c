/- The document's Parse of a fraction. -/
import Derived.Test.YtcdkoadobdgbhaaGreatDoorPk39
namespace Go.Proofs.YtcdkoadobdgbhaaGreatDoor
open Go.RowKit
set_option linter.unusedVariables false
set_option maxRecDepth 100000
set_option linter.unusedSimpArgs false
attribute [local go_sem ↓] Go.wp_at_zero Go.wp_at_succ

theorem p4_keep {w : World} {a : Addr} {b : Nat} {u : Value} (h : w.cell? a = some u) (hne : a.block ≠ b) (v0 v1 v2 v3 : Value) : ((((w.setCell ⟨b, 0, none⟩ v0).setCell ⟨b, 1, none⟩ v1).setCell ⟨b, 2, none⟩ v2).setCell ⟨b, 3, none⟩ v3).cell? a = some u := by
  have e : ((((w.setCell ⟨b, 0, none⟩ v0).setCell ⟨b, 1, none⟩ v1).setCell ⟨b, 2, none⟩ v2).setCell ⟨b, 3, none⟩ v3).heap[a.block]? = w.heap[a.block]? := by
    rw [Below.heap_setCell _ _ _ _ hne, Below.heap_setCell _ _ _ _ hne, Below.heap_setCell _ _ _ _ hne, Below.heap_setCell _ _ _ _ hne]
  rw [← h]
  unfold World.cell?
  rw [e]
theorem p4_other {w : World} {b : Nat} (v0 v1 v2 v3 : Value) : ∀ c, c ≠ b → ((((w.setCell ⟨b, 0, none⟩ v0).setCell ⟨b, 1, none⟩ v1).setCell ⟨b, 2, none⟩ v2).setCell ⟨b, 3, none⟩ v3).heap[c]? = w.heap[c]? := fun c hc => by
  rw [Below.heap_setCell _ _ _ _ hc, Below.heap_setCell _ _ _ _ hc, Below.heap_setCell _ _ _ _ hc, Below.heap_setCell _ _ _ _ hc]
theorem trat_other {w w' : World} {r : Nat} {v : Value} {n d : Int} {K : Nat} {c : Array Value} {fz : Nat × Nat} (h : TRatIs w v n d K) (hr : w.heap[r]? = some (.cells c 35 fz)) (hk : ∀ b, b ≠ r → w'.heap[b]? = w.heap[b]?) : TRatIs w' v n d K := by
  obtain ⟨a1, l1, c1, a2, l2, c2, m, h1, h2, h3, h4⟩ := h
  exact ⟨a1, l1, c1, a2, l2, c2, m, h1, rnum_other h2 hr hk, rnum_other h3 hr hk, h4⟩
theorem keep3p {W X : World} {p q r : Addr} {a b c : Value} (h1 : W.cell? p = some a) (h2 : W.cell? q = some b) (h3 : W.cell? r = some c) (h : Below W.heap.size W X) : X.cell? p = some a ∧ X.cell? q = some b ∧ X.cell? r = some c := ⟨kc h h1, kc h h2, kc h h3⟩
theorem end_set4 {X0 w : World} {g : Nat} {v : Value} {n d : Int} {K : Nat} {y0 y1 y2 y3 : Value} (B : Below X0.heap.size X0 w) (z0 : w.heap[g]? = some (Obj.cells #[y0, y1, y2, y3] 35 (0, 0))) (hg : X0.heap.size ≤ g) (h : TRatIs w v n d K) (x0 x1 x2 x3 : Value) :
    Below X0.heap.size X0 ((((w.setCell ⟨g, 0, none⟩ x0).setCell ⟨g, 1, none⟩ x1).setCell ⟨g, 2, none⟩ x2).setCell ⟨g, 3, none⟩ x3) ∧ ((((w.setCell ⟨g, 0, none⟩ x0).setCell ⟨g, 1, none⟩ x1).setCell ⟨g, 2, none⟩ x2).setCell ⟨g, 3, none⟩ x3).heap[g]? = some (Obj.cells #[x0, x1, x2, x3] 35 (0, 0)) ∧ X0.heap.size ≤ g ∧ TRatIs ((((w.setCell ⟨g, 0, none⟩ x0).setCell ⟨g, 1, none⟩ x1).setCell ⟨g, 2, none⟩ x2).setCell ⟨g, 3, none⟩ x3) v n d K :=
  ⟨p4_below B hg x0 x1 x2 x3, p4_set z0 x0 x1 x2 x3, hg, trat_other h z0 (p4_other x0 x1 x2 x3)⟩
theorem end_new4 {X0 w : World} {v : Value} {n d : Int} {K : Nat} (B : Below X0.heap.size X0 w) (h : TRatIs w v n d K) (x0 x1 x2 x3 : Value) :
    Below X0.heap.size X0 (w.alloc (Obj.cells #[x0, x1, x2, x3] 35)) ∧ (w.alloc (Obj.cells #[x0, x1, x2, x3] 35)).heap[w.heap.size]? = some (Obj.cells #[x0, x1, x2, x3] 35 (0, 0)) ∧ X0.heap.size ≤ w.heap.size ∧ TRatIs (w.alloc (Obj.cells #[x0, x1, x2, x3] 35)) v n d K :=
  ⟨below_alloc' B (Nat.le_refl _) _, box_new _ _, B.size, h.below ((Below.refl _ _).alloc (Nat.le_refl _) _)⟩
open Classical in
/-- What the document's Parse of a natural number tells of a text. -/
noncomputable def tE (s : ByteArray) : Int := if Txt s then 0 else 10
open Classical in
noncomputable def tN (s : ByteArray) : Nat := if Txt s then num s else 0
theorem rparse_both (s : ByteArray) (w : World) (hs : s.size ≤ 1000000000) :
    Calls Tryz.prog 137 #[.string s] w fun e w' => ∃ ao l c, e = .returned (.tuple #[.agg #[.slice ao l c], .int .i64 (tE s)]) ∧ RefIs w' (.agg #[.slice ao l c]) (tN s) (s.size / 9 + 1) ∧ Below w.heap.size w w' := by
  by_cases h : Txt s
  · refine (rparse_yes s w hs h).mono ?_
    rintro e w' ⟨⟨v, rfl, h1⟩, h2⟩
    have h1' := h1
    obtain ⟨_, M, rfl, hM, _⟩ := h1'
    obtain ⟨ao, cap, hsl⟩ := ints_slice hM
    subst hsl
    exact ⟨_, _, _, by rw [tE, if_pos h], by rw [tN, if_pos h]; exact h1, h2⟩
  · refine (rparse_no s w hs h).mono ?_
    rintro e w' ⟨rfl, h2⟩
    exact ⟨none, 0, 0, by rw [tE, if_neg h], by rw [tN, if_neg h]; exact (ref_zero w').mono (Nat.zero_le _), h2⟩
theorem parts_cases {s U : ByteArray} {k mm : Nat} {ee ff : Int} (HC : CutAt s k) (hlt : k < s.size) (hU : U = s.extract (k + 1) s.size) (h1 : tE U = ee) (h2 : tN U = mm) (h3 : mkE (mm : Int) = ff) :
    (ee = 10 ∧ ∀ n d, ¬ Can s n d) ∨ (ee = 0 ∧ ff = 12 ∧ ∀ n d, ¬ Can s n d) ∨ (ee = 0 ∧ ff = 0 ∧ (mm : Int) ≠ 0 ∧ ZTx (underT s k) (mm : Int)) := by
  have eU : underT s k = U := by unfold underT; rw [if_pos hlt, hU]
  by_cases hT : Txt U
  · rw [tE, if_pos hT] at h1
    rw [tN, if_pos hT] at h2
    have hz : ZTx (underT s k) (mm : Int) := by rw [eU]; exact Or.inl ⟨by omega, hT, by omega⟩
    by_cases h0 : (mm : Int) = 0
    · rw [mkE, if_pos h0] at h3
      exact Or.inr (Or.inl ⟨h1.symm, h3.symm, can_zero HC (by rw [h0] at hz; exact hz)⟩)
    · rw [mkE, if_neg h0] at h3
      exact Or.inr (Or.inr ⟨h1.symm, h3.symm, h0, hz⟩)
  · rw [tE, if_neg hT] at h1
    refine Or.inl ⟨h1.symm, fun n d h => ?_⟩
    obtain ⟨_, h5, _, _, h6⟩ := (can_parts HC hlt).1 h
    rw [← hU] at h6
    rcases h6 with ⟨_, h7, _⟩ | ⟨h7, _⟩
    · exact hT h7
    · omega
set_option maxHeartbeats 8000000 in
theorem tparse_any (s : ByteArray) (w : World) (hs : s.size ≤ 100000) :
    Calls Tryz.prog 98 #[.string s] w fun e w' => ((∃ n d v, Can s n d ∧ e = .returned (.tuple #[v, .int .i64 0]) ∧ TRatIs w' v n d (s.size / 9 + 8)) ∨ ((∀ n d, ¬ Can s n d) ∧ e = .returned (.tuple #[.agg #[.bool false, .slice none 0 0, .bool false, .slice none 0 0], .int .i64 10]))) ∧ Below w.heap.size w w' := by
  have r0 := box_new w (Obj.cells #[.bool false, .slice none 0 0, .bool false, .slice none 0 0] 35)
  have b0 := (Below.refl w.heap.size w).alloc (Nat.le_refl _) (Obj.cells #[.bool false, .slice none 0 0, .bool false, .slice none 0 0] 35)
  go_enter Tryz.func98, Tryz.ntmps98
  go_wp2
  generalize w.alloc (Obj.cells #[.bool false, .slice none 0 0, .bool false, .slice none 0 0] 35) = W at *
  go_loop [4] (fun i => ∃ k : Nat, k ≤ s.size ∧ i = .int .i64 k ∧ ∀ j, j < k → bt s j ≠ 47) (fun i => s.size - (intOf i).toNat)
  case atStart => exact ⟨0, Nat.zero_le _, rfl, fun j hj => by omega⟩
  case round =>
    obtain ⟨k, hk, rfl, hd⟩ := hrel
    have HD := hid hd
    clear hd
    by_cases hlt : k < s.size
    · have ek := bt_at s k hlt
      by_cases hc : bt s k = 47
      · have HC : CutAt s k := ⟨hk, HD.out, fun _ => hc⟩
        rw [hc] at ek
        have hne : (k == s.size) = false := beq_eq_false_iff_ne.2 (by omega)
        clear hc
        go_wp2_with fail
        refine (sparse_both (s.extract 0 k) _ (by rw [ByteArray.size_extract]; omega)).mono ?_
        rintro e w1 ⟨ao, l, c, d, rfl, hna, b1⟩
        have hA : (s.extract 0 k).size ≤ s.size := by rw [ByteArray.size_extract]; omega
        have r1 := (b1.block _ (lt_of_block r0)).trans r0
        have B1 := chain2 b0 b1
        have t0 := box_new w1 (Obj.cells #[.bool d, .slice ao l c] 33)
        have b2 := (Below.refl w1.heap.size w1).alloc (Nat.le_refl _) (Obj.cells #[.bool d, .slice ao l c] 33)
        have B2 := chain2 B1 b2
        have r2 := (b2.block _ (lt_of_block r1)).trans r1
        rcases zE_cases (s.extract 0 k) with ⟨k1, x, hx⟩ | k1
        · rw [k1]
          have na := (hna x hx).below b2
          clear k1 hna b2
          obtain ⟨x0, x1, x2, x3⟩ := four_cell r2
          have hU : (s.extract (k + 1) s.size).size ≤ s.size := by rw [ByteArray.size_extract]; omega
          have q0 := two_cell0 t0
          have q1 := two_cell1 t0
          go_wp2_with fail
          generalize w1.alloc (Obj.cells #[.bool d, .slice ao l c] 33) = W2 at *
          have hne1 : w.heap.size < w1.heap.size := lt_of_block r1
          clear b1 B1 r1
          generalize w1.heap.size = k1 at *
          obtain ⟨U, hUe⟩ : ∃ U, U = s.extract (k + 1) s.size := ⟨_, rfl⟩
          rw [← hUe] at hU ⊢
          have HUe := hid hUe
          clear hUe
          refine (rparse_both U _ (by omega)).mono ?_
          rintro e w3 ⟨a3, l3, c3, rfl, n3, b3⟩
          have B3 := chain2 B2 b3
          have u3 := (b3.block _ (lt_of_block t0)).trans t0
          have r3 := (b3.block _ (lt_of_block r2)).trans r2
          have na3 := na.below b3
          clear q0 q1 x0 x1 x2 x3 t0 r2 na B2 b3 b0 r0
          have hne2 : k1 < w3.heap.size := lt_of_block u3
          have m0 := box_new w3 (Obj.cells #[.slice a3 l3 c3] 31)
          have b4 := (Below.refl w3.heap.size w3).alloc (Nat.le_refl _) (Obj.cells #[.slice a3 l3 c3] 31)
          have B4 := chain2 B3 b4
          have u4 := (b4.block _ (lt_of_block u3)).trans u3
          have r4 := (b4.block _ (lt_of_block r3)).trans r3
          have na4 := na3.below b4
          have n4 := n3.below b4
          clear na3 n3 u3 r3 B3
          generalize htE : tE U = ee at *
          generalize htN : tN U = mm at *
          have HE := hid (And.intro htE htN)
          clear htE htN
          go_wp2_with fail
          generalize w3.alloc (Obj.cells #[.slice a3 l3 c3] 31) = W4 at *
          generalize w3.heap.size = k3 at *
          have q0 := two_cell0 u4
          have q1 := two_cell1 u4
          have q2 : W4.cell? ⟨k3, 0, none⟩ = some (.slice a3 l3 c3) := by simp [World.cell?, m0]
          have B0 : Below W4.heap.size W4 W4.drew := (Below.refl _ _).drew
          generalize hff : mkE (mm : Int) = ff at *
          have HF := hid hff
          clear hff u4 m0
          go_region_held3 (fun w' => w'.cell? ⟨k1, 0, none⟩ = some (.bool d) ∧ w'.cell? ⟨k1, 1, none⟩ = some (.slice ao l c) ∧ w'.cell? ⟨k3, 0, none⟩ = some (.slice a3 l3 c3)) ((refine keep3p q0 q1 q2 ?_; first | exact B0 | exact B1 | exact BB | exact below_alloc' B0 (Nat.le_refl _) _ | exact below_alloc' B1 (Nat.le_refl _) _ | exact below_alloc' BB (Nat.le_refl _) _ | exact p4_below BB B0.size _ _ _ _ | exact p4_below BB B1.size _ _ _ _ | exact p4_below (below_alloc' BB (Nat.le_refl _) _) BB.size _ _ _ _)) (first
            | (have gk := B1; go_at_call 68; refine (tmake_any _ _ _ x (mm : Int) (s.size / 9 + 1) (by omega) (by first | exact (na4.below B1).mono (by omega) | exact (na4.below (below_alloc' B1 (Nat.le_refl _) _)).mono (by omega)) (by first | exact n5 | exact n5.below (below_alloc' (Below.refl _ _) (Nat.le_refl _) _))).mono ?_; rintro e w6 ⟨⟨a6, l6, c6, d6, a7, l7, c7, d7, rfl, R6⟩, b6⟩; rw [HF.out]; have BB : Below W4.heap.size W4 w6 := (by first | exact chain2 B1 b6 | exact chain2 (below_alloc' B1 (Nat.le_refl _) _) b6); (try have z0 := box_below b6 (box_new w5 (Obj.cells #[Value.bool false, Value.slice none 0 0, Value.bool false, Value.slice none 0 0] 35)) (lt_of_block (box_new w5 (Obj.cells #[Value.bool false, Value.slice none 0 0, Value.bool false, Value.slice none 0 0] 35)))); (try have z0 := box_below b6 z0 (lt_of_block z0)); (try have z1 := four_cell z0); (try obtain ⟨i0, i1, i2, i3⟩ := z1); (try have z4 := p4_free z0))
            | (go_at_call 66; refine (smake_any _ false _ mm (s.size / 9 + 1) (by first | exact (n4.below B0).mono (by omega) | exact (n4.below (below_alloc' B0 (Nat.le_refl _) _)).mono (by omega))).mono ?_; rintro e w5 ⟨v5, rfl, n5, b5⟩; have B1 : Below W4.heap.size W4 w5 := (by first | exact chain2 B0 b5 | exact chain2 (below_alloc' B0 (Nat.le_refl _) _) b5); rw [show sgn false mm = (mm : Int) by simp [sgn]] at n5; (try have z0 := box_below b5 (show (W4.drew.alloc (Obj.cells #[Value.bool false, Value.slice none 0 0, Value.bool false, Value.slice none 0 0] 35)).heap[W4.heap.size]? = some (Obj.cells #[Value.bool false, Value.slice none 0 0, Value.bool false, Value.slice none 0 0] 35) from box_new W4.drew (Obj.cells #[Value.bool false, Value.slice none 0 0, Value.bool false, Value.slice none 0 0] 35)) (lt_of_block (box_new W4.drew (Obj.cells #[Value.bool false, Value.slice none 0 0, Value.bool false, Value.slice none 0 0] 35))))))
          all_goals
            first
              | (have E := end_set4 BB z0 B1.size R6 (.bool d6) (.slice a6 l6 c6) (.bool d7) (.slice a7 l7 c7); generalize (((w6.setCell { block := w5.heap.size, off := 0 } (.bool d6)).setCell { block := w5.heap.size, off := 1 } (.slice a6 l6 c6)).setCell { block := w5.heap.size, off := 2 } (.bool d7)).setCell { block := w5.heap.size, off := 3 } (.slice a7 l7 c7) = V at E ⊢; generalize w5.heap.size = g at E ⊢)
              | (have E := end_set4 BB z0 (Nat.le_refl _) R6 (.bool d6) (.slice a6 l6 c6) (.bool d7) (.slice a7 l7 c7); generalize (((w6.setCell { block := W4.heap.size, off := 0 } (.bool d6)).setCell { block := W4.heap.size, off := 1 } (.slice a6 l6 c6)).setCell { block := W4.heap.size, off := 2 } (.bool d7)).setCell { block := W4.heap.size, off := 3 } (.slice a7 l7 c7) = V at E ⊢; obtain ⟨g, hg⟩ : ∃ g, g = W4.heap.size := ⟨_, rfl⟩; have E := (show Below W4.heap.size W4 V ∧ V.heap[g]? = some (Obj.cells #[.bool d6, .slice a6 l6 c6, .bool d7, .slice a7 l7 c7] 35 (0, 0)) ∧ W4.heap.size ≤ g ∧ _ from ⟨E.1, by rw [hg]; exact E.2.1, by rw [hg]; exact E.2.2.1, E.2.2.2⟩); rw [← hg]; clear hg)
              | (have E := end_new4 BB R6 (.bool d6) (.slice a6 l6 c6) (.bool d7) (.slice a7 l7 c7); generalize w6.alloc (Obj.cells #[.bool d6, .slice a6 l6 c6, .bool d7, .slice a7 l7 c7] 35) = V at E ⊢; generalize w6.heap.size = g at E ⊢)
            obtain ⟨bV, gV, hgl, RV⟩ := E
            have rV := (bV.block _ (lt_of_block r4)).trans r4
            have BV := chain2 B4 bV
            have hgw : g ≠ w.heap.size := by have := lt_of_block r4; omega
            (try clear z0)
            (try clear i0 i1 i2 i3 z4)
            clear R6 BB b6 B1 b5 n5 q0 q1 q2
            have HX := hid (parts_cases HC hlt HUe.out HE.out.1 HE.out.2 HF.out)
            rcases HX.out with ⟨h1, h2⟩ | ⟨h1, h3, h2⟩ | ⟨h1, h3, h0, hy⟩
            · subst h1
              have HK := hid h2
              clear h2 RV HX HE HF
              obtain ⟨x0, x1, x2, x3⟩ := four_cell rV
              have fr := p4_free rV
              have o1 := four_cell (p4_set rV (.bool false) (.slice none 0 0) (.bool false) (.slice none 0 0))
              have o2 := p4_below BV (Nat.le_refl _) (.bool false) (.slice none 0 0) (.bool false) (.slice none 0 0)
              go_wp2
              refine bodyPost_ret (v := .tuple #[.agg #[.bool false, .slice none 0 0, .bool false, .slice none 0 0], .int .i64 10]) ?_ rfl ⟨Or.inr ⟨HK.out, rfl⟩, o2⟩
              simp [results, Tryz.results98, go_sem, o1.1, o1.2.1, o1.2.2.1, o1.2.2.2]
            · subst h1
              subst h3
              have HK := hid h2
              clear h2 RV HX HE HF
              obtain ⟨x0, x1, x2, x3⟩ := four_cell rV
              have fr := p4_free rV
              have o1 := four_cell (p4_set rV (.bool false) (.slice none 0 0) (.bool false) (.slice none 0 0))
              have o2 := p4_below BV (Nat.le_refl _) (.bool false) (.slice none 0 0) (.bool false) (.slice none 0 0)
              go_wp2
              refine bodyPost_ret (v := .tuple #[.agg #[.bool false, .slice none 0 0, .bool false, .slice none 0 0], .int .i64 10]) ?_ rfl ⟨Or.inr ⟨HK.out, rfl⟩, o2⟩
              simp [results, Tryz.results98, go_sem, o1.1, o1.2.1, o1.2.2.1, o1.2.2.2]
            · subst h1
              subst h3
              rw [mkN, if_neg h0, mkD, if_neg h0] at RV
              clear HX HE HF
              obtain ⟨x0, x1, x2, x3⟩ := four_cell gV
              go_wp2_with fail
              refine (ttext_any _ _ _ _ _ (by omega) RV).mono ?_
              rintro e w8 ⟨⟨t, rfl, ht⟩, b8⟩
              obtain ⟨G1, G2⟩ := can_gen HC hx hy h0 ht
              have f8 := (b8.block _ (lt_of_block gV)).trans gV
              have r8 := (b8.block _ (lt_of_block rV)).trans rV
              have B8 := chain2 BV b8
              have R8 := RV.below b8
              clear gV rV BV RV x0 x1 x2 x3 b8 hy hx ht
              by_cases ht2 : t = s
              · have HK := hid (G1 ht2)
                subst ht2
                obtain ⟨x0, x1, x2, x3⟩ := four_cell r8
                obtain ⟨z0, z1, z2, z3⟩ := four_cell f8
                have fr := p4_free r8
                have o1 := four_cell (p4_set r8 (.bool d6) (.slice a6 l6 c6) (.bool d7) (.slice a7 l7 c7))
                have B9 := p4_below B8 (Nat.le_refl _) (.bool d6) (.slice a6 l6 c6) (.bool d7) (.slice a7 l7 c7)
                have R9 := trat_other R8 r8 (p4_other (.bool d6) (.slice a6 l6 c6) (.bool d7) (.slice a7 l7 c7))
                clear G1 G2
                go_wp2
                refine bodyPost_ret (v := .tuple #[.agg #[.bool d6, .slice a6 l6 c6, .bool d7, .slice a7 l7 c7], .int .i64 0]) ?_ rfl ⟨Or.inl ⟨_, _, _, HK.out, rfl, R9.mono (by omega)⟩, B9⟩
                simp [results, Tryz.results98, go_sem, o1.1, o1.2.1, o1.2.2.1, o1.2.2.2]
              · have HK := hid (G2 ht2)
                have hb1 : (t.toList == s.toList) = false := beq_eq_false_iff_ne.2 fun h => ht2 (tlq_inj h)
                clear G1 G2 R8 f8
                obtain ⟨x0, x1, x2, x3⟩ := four_cell r8
                have fr := p4_free r8
                have o1 := four_cell (p4_set r8 (.bool false) (.slice none 0 0) (.bool false) (.slice none 0 0))
                have o2 := p4_below B8 (Nat.le_refl _) (.bool false) (.slice none 0 0) (.bool false) (.slice none 0 0)
                go_wp2
                refine bodyPost_ret (v := .tuple #[.agg #[.bool false, .slice none 0 0, .bool false, .slice none 0 0], .int .i64 10]) ?_ rfl ⟨Or.inr ⟨HK.out, rfl⟩, o2⟩
                simp [results, Tryz.results98, go_sem, o1.1, o1.2.1, o1.2.2.1, o1.2.2.2]
        · rw [k1]
          have HK := hid (can_no HC (Or.inl fun x hx => by have : zE (s.extract 0 k) = 0 := by { unfold zE; rw [if_pos ⟨x, hx⟩] }; omega))
          clear k1 hna
          obtain ⟨x0, x1, x2, x3⟩ := four_cell r2
          have fr := p4_free r2
          have g := four_cell (p4_set r2 (.bool false) (.slice none 0 0) (.bool false) (.slice none 0 0))
          have B6 := p4_below B2 (Nat.le_refl _) (.bool false) (.slice none 0 0) (.bool false) (.slice none 0 0)
          obtain ⟨g0, g1, g2, g3⟩ := g
          have v4 := p4_set r1 (.bool false) (.slice none 0 0) (.bool false) (.slice none 0 0)
          have B7 := (p4_below B1 (Nat.le_refl _) (.bool false) (.slice none 0 0) (.bool false) (.slice none 0 0)).alloc (p4_below B1 (Nat.le_refl _) (.bool false) (.slice none 0 0) (.bool false) (.slice none 0 0)).size (Obj.cells #[.bool d, .slice ao l c] 33)
          have v5 := four_cell ((Below.heap_alloc _ (Obj.cells #[.bool d, .slice ao l c] 33) _ (lt_of_block v4)).trans v4)
          obtain ⟨y0, y1, y2, y3⟩ := v5
          go_wp2
          refine bodyPost_ret (v := .tuple #[.agg #[.bool false, .slice none 0 0, .bool false, .slice none 0 0], .int .i64 10]) ?_ rfl ⟨Or.inr ⟨HK.out, rfl⟩, ?_⟩
          · simp [results, Tryz.results98, go_sem, g0, g1, g2, g3, y0, y1, y2, y3]
          · first | exact B6 | exact B7
      · have hc' : ((bt s k : Int) == 47) = false := beq_eq_false_iff_ne.2 (by omega)
        go_wp2
        go_round
        case rel => exact ⟨k + 1, by omega, by go_num, fun j hj => by
          by_cases e : j = k
          · subst e; exact hc
          · exact HD.out j (by omega)⟩
        case measure => simp [intOf]; omega
    · obtain rfl : k = s.size := by omega
      have HC : CutAt s s.size := ⟨hk, HD.out, fun h => absurd h hlt⟩
      go_wp2_with fail
      refine (sparse_both s _ (by omega)).mono ?_
      rintro e w1 ⟨ao, l, c, d, rfl, hna, b1⟩
      have r1 := (b1.block _ (lt_of_block r0)).trans r0
      have B1 := chain2 b0 b1
      have t0 := box_new w1 (Obj.cells #[.bool d, .slice ao l c] 33)
      have b2 := (Below.refl w1.heap.size w1).alloc (Nat.le_refl _) (Obj.cells #[.bool d, .slice ao l c] 33)
      have B2 := chain2 B1 b2
      have r2 := (b2.block _ (lt_of_block r1)).trans r1
      rcases zE_cases s with ⟨k1, x, hx⟩ | k1
      · rw [k1]
        have na := (hna x hx).below b2
        clear k1 hna b2
        have HK := hid ((can_whole (n := x) (d := 1) HC).2 ⟨rfl, hx⟩)
        obtain ⟨x0, x1, x2, x3⟩ := four_cell r2
        have fr := p4_free r2
        have q0 := two_cell0 t0
        have q1 := two_cell1 t0
        have hne : w1.heap.size ≠ w.heap.size := by have := lt_of_block r1; omega
        go_wp2_with fail
        generalize w1.alloc (Obj.cells #[.bool d, .slice ao l c] 33) = W2 at *
        clear t0 b1 B1 r1
        generalize w1.heap.size = k1 at *
        have B0 : Below W2.heap.size W2 W2.drew := (Below.refl _ _).drew
        go_region_held3 (fun w' => w'.cell? ⟨k1, 0, none⟩ = some (.bool d) ∧ w'.cell? ⟨k1, 1, none⟩ = some (.slice ao l c)) (first | exact ⟨q0, q1⟩ | exact K1 | exact K3) (first
          | (go_at_call 21; refine (sof_any _ 1 (by omega) (by omega)).mono ?_; rintro e w3 ⟨v3, rfl, n3, b3⟩; obtain ⟨a3, l3, c3, d3, rfl⟩ := rnum_form n3; have B3 := chain2 B0 b3; have K1 := keep2 q0 q1 B3; have r3 := (B3.block _ (lt_of_block r2)).trans r2; obtain ⟨z0, z1, z2, z3⟩ := four_cell r3; have fz := p4_free r3; have K3 := And.intro (p4_keep K1.1 hne (.bool d) (.slice ao l c) (.bool d3) (.slice a3 l3 c3)) (p4_keep K1.2 hne (.bool d) (.slice ao l c) (.bool d3) (.slice a3 l3 c3))))
        all_goals
          have o1 := four_cell (p4_set r3 (.bool d) (.slice ao l c) (.bool d3) (.slice a3 l3 c3))
          have o2 := p4_below (chain2 B2 B3) (Nat.le_refl _) (.bool d) (.slice ao l c) (.bool d3) (.slice a3 l3 c3)
          have o3 := trat_of (rnum_other ((na.below B3).mono (show s.size / 9 + 1 ≤ s.size / 9 + 8 by omega)) r3 (p4_other (.bool d) (.slice ao l c) (.bool d3) (.slice a3 l3 c3))) (rnum_other (n3.mono (show 3 ≤ s.size / 9 + 8 by omega)) r3 (p4_other (.bool d) (.slice ao l c) (.bool d3) (.slice a3 l3 c3))) (by omega)
          have HO := hid (And.intro o1 (And.intro o2 o3))
          clear o1 o2 o3 K1 K3 r3 z0 z1 z2 z3 fz n3 b3 B3 na
          generalize (((w3.setCell ⟨w.heap.size, 0, none⟩ (.bool d)).setCell ⟨w.heap.size, 1, none⟩ (.slice ao l c)).setCell ⟨w.heap.size, 2, none⟩ (.bool d3)).setCell ⟨w.heap.size, 3, none⟩ (.slice a3 l3 c3) = X at *
          go_wp2
          obtain ⟨⟨g0, g1, g2, g3⟩, o2, o3⟩ := HO.out
          exact bodyPost_ret (v := .tuple #[.agg #[.bool d, .slice ao l c, .bool d3, .slice a3 l3 c3], .int .i64 0]) (by simp [results, Tryz.results98, go_sem, g0, g1, g2, g3]) rfl ⟨Or.inl ⟨_, _, _, HK.out, rfl, o3⟩, o2⟩
      · rw [k1]
        have HK := hid (show ∀ n d, ¬ Can s n d from fun n d h => by have : zE s = 0 := by { unfold zE; rw [if_pos ⟨n, ((can_whole HC).1 h).2⟩] }; omega)
        clear k1 hna
        obtain ⟨x0, x1, x2, x3⟩ := four_cell r2
        have fr := p4_free r2
        have g := four_cell (p4_set r2 (.bool false) (.slice none 0 0) (.bool false) (.slice none 0 0))
        have B6 := p4_below B2 (Nat.le_refl _) (.bool false) (.slice none 0 0) (.bool false) (.slice none 0 0)
        obtain ⟨g0, g1, g2, g3⟩ := g
        have v4 := p4_set r1 (.bool false) (.slice none 0 0) (.bool false) (.slice none 0 0)
        have B7 := (p4_below B1 (Nat.le_refl _) (.bool false) (.slice none 0 0) (.bool false) (.slice none 0 0)).alloc (p4_below B1 (Nat.le_refl _) (.bool false) (.slice none 0 0) (.bool false) (.slice none 0 0)).size (Obj.cells #[.bool d, .slice ao l c] 33)
        have v5 := four_cell ((Below.heap_alloc _ (Obj.cells #[.bool d, .slice ao l c] 33) _ (lt_of_block v4)).trans v4)
        obtain ⟨y0, y1, y2, y3⟩ := v5
        go_wp2
        refine bodyPost_ret (v := .tuple #[.agg #[.bool false, .slice none 0 0, .bool false, .slice none 0 0], .int .i64 10]) ?_ rfl ⟨Or.inr ⟨HK.out, rfl⟩, ?_⟩
        · simp [results, Tryz.results98, go_sem, g0, g1, g2, g3, y0, y1, y2, y3]
        · first | exact B6 | exact B7
end Go.Proofs.YtcdkoadobdgbhaaGreatDoor
