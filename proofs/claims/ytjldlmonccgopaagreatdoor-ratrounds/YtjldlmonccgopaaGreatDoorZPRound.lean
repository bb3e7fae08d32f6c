/- Fractions: Round of the program. -/
import Derived.Test.YtjldlmonccgopaaGreatDoorZPFloor
import Derived.Test.YtjldlmonccgopaaGreatDoorZPOdd
import Derived.Test.YtjldlmonccgopaaGreatDoorPk19
namespace Go.Proofs.YtjldlmonccgopaaGreatDoor
open Go.RowKit
set_option linter.unusedVariables false
set_option maxRecDepth 100000
set_option linter.unusedSimpArgs false
attribute [local go_sem ↓] Go.wp_at_zero Go.wp_at_succ

/-- The nearest whole number; of two that are as near the even one. -/
def rnd (n d : Int) : Int := if d < n.fmod d + n.fmod d ∨ (n.fmod d + n.fmod d = d ∧ ¬ (n.fdiv d).fmod 2 = 0) then n.fdiv d + 1 else n.fdiv d
set_option maxHeartbeats 8000000 in
theorem qround_any (w : World) (v : Value) (n d : Int) (K : Nat) (hK : K ≤ 900000) (h : RatIs w v n d K) (hd : d ≠ 0) :
    Calls Tryz.prog 13 #[v] w fun e w' => ∃ v, e = .returned v ∧ NumIs w' v (rnd n d) (K + 8) ∧ Below w.heap.size w w' := by
  have h0 := h
  obtain ⟨a1, l1, c1, a2, l2, c2, rfl, h1, _⟩ := h
  generalize decide (n < 0) = b1 at *
  generalize decide (d - 1 < 0) = b2 at *
  have hx := boxed2_first w (Obj.cells #[.slice a1 l1 c1, .bool b1, .slice a2 l2 c2, .bool b2] 29) (Obj.cells #[.slice none 0 0, .bool false] 27)
  have hy := boxed2_second w (Obj.cells #[.slice a1 l1 c1, .bool b1, .slice a2 l2 c2, .bool b2] 29) (Obj.cells #[.slice none 0 0, .bool false] 27)
  have hB := boxed2 (Below.refl w.heap.size w) (Obj.cells #[.slice a1 l1 c1, .bool b1, .slice a2 l2 c2, .bool b2] 29) (Obj.cells #[.slice none 0 0, .bool false] 27)
  have Na := h1.below hB
  have Ra := h0.below hB
  clear h1 h0
  obtain ⟨t1, t2, t3, t4⟩ := four_cell hx
  go_enter Tryz.func13, Tryz.ntmps13
  go_wp2_with fail
  generalize (w.alloc (Obj.cells #[.slice a1 l1 c1, .bool b1, .slice a2 l2 c2, .bool b2] 29)).alloc (Obj.cells #[.slice none 0 0, .bool false] 27) = W at *
  refine (qden_any _ _ n d K (by omega) Ra).mono ?_
  rintro e w1 ⟨v1, rfl, n1, hb1⟩
  obtain ⟨a3, l3, c3, d3, rfl⟩ := num_form n1
  clear t1 t2 t3 t4
  have x1 := box_alloc (box_below hb1 hx (lt_of_block hx)) (Obj.cells #[.slice a3 l3 c3, .bool d3] 27)
  have y1 := box_alloc (box_below hb1 hy (lt_of_block hy)) (Obj.cells #[.slice a3 l3 c3, .bool d3] 27)
  have z1 := box_new w1 (Obj.cells #[.slice a3 l3 c3, .bool d3] 27)
  have B1 : Below W.heap.size W (w1.alloc (Obj.cells #[.slice a3 l3 c3, .bool d3] 27)) := below_alloc' hb1 (Nat.le_refl _) _
  have N1 := n1.below ((Below.refl _ _).alloc (Nat.le_refl _) (Obj.cells #[.slice a3 l3 c3, .bool d3] 27))
  have C1 := chain2 hB B1
  have Na := Na.below B1
  obtain ⟨t1, t2, t3, t4⟩ := four_cell x1
  have s1 := two_cell0 z1
  have s2 := two_cell1 z1
  clear hx hy hb1 n1 Ra hB
  go_wp2_with fail
  generalize w1.alloc (Obj.cells #[.slice a3 l3 c3, .bool d3] 27) = W1 at *
  refine (ndm_any _ _ _ n d (K + 3) (by omega) (Na.mono (by omega)) N1 hd).mono ?_
  rintro e w2 ⟨⟨q2, r2, rfl, n2, m2⟩, hb2⟩
  obtain ⟨a5, l5, c5, d5, rfl⟩ := num_form n2
  obtain ⟨a6, l6, c6, d6, rfl⟩ := num_form m2
  clear t1 t2 t3 t4 s1 s2 x1
  have B2 := boxed2 (Below.refl w2.heap.size w2) (Obj.cells #[.slice a5 l5 c5, .bool d5] 27) (Obj.cells #[.slice a6 l6 c6, .bool d6] 27)
  have E2 := chain2 hb2 B2
  have hne : w2.heap.size ≠ w.heap.size + 1 := Nat.ne_of_gt (lt_of_block (box_below hb2 y1 (lt_of_block y1)))
  have y2 := box_below E2 y1 (lt_of_block y1)
  have z2 := box_below E2 z1 (lt_of_block z1)
  have x5 := boxed2_first w2 (Obj.cells #[.slice a5 l5 c5, .bool d5] 27) (Obj.cells #[.slice a6 l6 c6, .bool d6] 27)
  have x6 := boxed2_second w2 (Obj.cells #[.slice a5 l5 c5, .bool d5] 27) (Obj.cells #[.slice a6 l6 c6, .bool d6] 27)
  have N2 := N1.below E2
  have n2 := n2.below B2
  have m2 := m2.below B2
  have C2 := chain2 C1 E2
  clear C1 E2 B2 hb2 N1 y1 z1 Na B1
  go_wp2_with fail
  generalize (w2.alloc (Obj.cells #[.slice a5 l5 c5, .bool d5] 27)).alloc (Obj.cells #[.slice a6 l6 c6, .bool d6] 27) = W2 at *
  have B0 : Below W2.heap.size W2 W2.drew := (Below.refl _ _).drew
  have s1 := two_cell0 z2
  have s2 := two_cell1 z2
  have r1 := two_cell0 x6
  have r2 := two_cell1 x6
  rename_i K3 hK3
  go_region_held3 (fun w' => w'.cell? ⟨w2.heap.size + 1, 0, none⟩ = some (.slice a6 l6 c6) ∧ w'.cell? ⟨w2.heap.size + 1, 1, none⟩ = some (.bool d6) ∧ w'.cell? ⟨w1.heap.size, 0, none⟩ = some (.slice a3 l3 c3) ∧ w'.cell? ⟨w1.heap.size, 1, none⟩ = some (.bool d3)) ((refine keep4' r1 r2 s1 s2 ?_; first | with_reducible exact B0 | with_reducible exact F1 | with_reducible exact F2)) (first
    | (have gk := F1; go_at_call 12; refine (ncmp_any _ _ _ (n.fmod d + n.fmod d) d (max (K + 3 + 1) (K + 3 + 1) + 1) (K + 3) (by omega) (by omega) g1 (N2.below F1)).mono ?_; rintro e w4 ⟨rfl, f2⟩; have F2 := chain2 F1 f2)
    | (have gk := B0; go_at_call 26; refine (nadd_any _ _ _ (n.fmod d) (n.fmod d) (K + 3 + 1) (K + 3 + 1) (by omega) (by omega) (m2.below B0) (m2.below B0)).mono ?_; rintro e w3 ⟨v3, rfl, g1, f1⟩; have F1 := chain2 B0 f1))
  change K3 _ _
  refine hK3 _ _ ?_
  have y4 := box_below F2 y2 (lt_of_block y2)
  have x5 := box_below F2 x5 (lt_of_block x5)
  have q1 := two_cell0 x5
  have q2 := two_cell1 x5
  have n4 := n2.below F2
  have C4 := chain2 C2 F2
  clear hK3 F1 F2 f1 f2 g1 r1 r2 s1 s2 x6 z2 y2 m2 n2 N2 B0 C2 x5
  rcases Int.lt_trichotomy (n.fmod d + n.fmod d) d with hc | hc | hc
  · have hr : rnd n d = n.fdiv d := by unfold rnd; rw [if_neg (by omega)]
    rw [show cmpZ (n.fmod d + n.fmod d) d = -1 by unfold cmpZ; rw [if_pos hc]]
    have HR := hid hr
    clear hr hc
    have yE := y4
    have u0 := two_cell0 yE
    have u1 := two_cell1 yE
    have u2 := two_free (k := 0) yE
    have u3 := two_free (k := 1) yE
    obtain ⟨e1, e2, e3⟩ := end_two C4 (Nat.le_succ w.heap.size) yE (.slice a5 l5 c5) (.bool d5)
    have N := (n4).box2 yE (by decide) (.slice a5 l5 c5) (.bool d5)
    have HE := hid (And.intro e1 e2)
    clear e1 e2
    go_wp2
    exact bodyPost_ret (v := .agg #[.slice a5 l5 c5, .bool d5]) (by simp [results, Tryz.results13, go_sem, HE.out.1, HE.out.2]) rfl ⟨_, rfl, by rw [HR.out]; exact N.mono (by omega), e3⟩
  · rw [show cmpZ (n.fmod d + n.fmod d) d = 0 by unfold cmpZ; rw [if_neg (by omega), if_neg (by omega)]]
    have HC := hid hc
    clear hc
    go_wp2_with fail
    refine (qodd_any _ _ (n.fdiv d) (K + 3 + 3) (by omega) n4).mono ?_
    rintro e w5 ⟨rfl, f5⟩
    have y5 := box_below f5 y4 (lt_of_block y4)
    have q1 := kc f5 q1
    have q2 := kc f5 q2
    have n5 := n4.below f5
    have C5 := chain2 C4 f5
    clear f5 y4 n4 C4
    by_cases ho : (n.fdiv d).fmod 2 = 0
    · have HR := hid (show rnd n d = n.fdiv d by unfold rnd; rw [if_neg (by have := HC.out; omega)])
      rw [show (!decide ((n.fdiv d).fmod 2 = 0)) = false by simp [ho]]
      clear ho HC
      have yE := y5
      have u0 := two_cell0 yE
      have u1 := two_cell1 yE
      have u2 := two_free (k := 0) yE
      have u3 := two_free (k := 1) yE
      obtain ⟨e1, e2, e3⟩ := end_two C5 (Nat.le_succ w.heap.size) yE (.slice a5 l5 c5) (.bool d5)
      have N := (n5).box2 yE (by decide) (.slice a5 l5 c5) (.bool d5)
      have HE := hid (And.intro e1 e2)
      clear e1 e2
      go_wp2
      exact bodyPost_ret (v := .agg #[.slice a5 l5 c5, .bool d5]) (by simp [results, Tryz.results13, go_sem, HE.out.1, HE.out.2]) rfl ⟨_, rfl, by rw [HR.out]; exact N.mono (by omega), e3⟩
    · have HR := hid (show rnd n d = n.fdiv d + 1 by unfold rnd; rw [if_pos (Or.inr ⟨HC.out, ho⟩)])
      rw [show (!decide ((n.fdiv d).fmod 2 = 0)) = true by simp [ho]]
      clear ho HC
      go_wp2_with fail
      have G0 : Below w5.heap.size w5 w5.drew := (Below.refl _ _).drew
      go_region_held3 (fun w' => w'.cell? ⟨w2.heap.size, 0, none⟩ = some (.slice a5 l5 c5) ∧ w'.cell? ⟨w2.heap.size, 1, none⟩ = some (.bool d5)) ((first | with_reducible exact keep2 q1 q2 G0 | with_reducible exact keep2 q1 q2 G1 | with_reducible exact keep2 q1 q2 G2 | exact ⟨two_keep0 (kc G2 q1) hne _ _, two_keep0 (kc G2 q2) hne _ _⟩)) (first
        | (have gk := G1; go_at_call 26; refine (nadd_any _ _ _ (n.fdiv d) 1 (K + 3 + 3) 2 (by omega) (by omega) (n5.below G1) g6).mono ?_; rintro e w7 ⟨v7, rfl, g7, f7⟩; have G2 := chain2 G1 f7; obtain ⟨a7, l7, c7, d7, rfl⟩ := num_form g7; have yE := box_below G2 y5 (lt_of_block y5); have u0 := two_cell0 yE; have u1 := two_cell1 yE; have u2 := two_free (k := 0) yE; have u3 := two_free (k := 1) yE)
        | (have gk := G0; go_at_call 11; refine (nof_any _ 1 (by decide) (by decide)).mono ?_; rintro e w6 ⟨v6, rfl, g6, f6⟩; have G1 := chain2 G0 f6))
      obtain ⟨e1, e2, e3⟩ := end_two (chain2 C5 G2) (Nat.le_succ w.heap.size) yE (.slice a7 l7 c7) (.bool d7)
      have N := (g7).box2 yE (by decide) (.slice a7 l7 c7) (.bool d7)
      have HE := hid (And.intro e1 e2)
      clear e1 e2
      go_wp2
      exact bodyPost_ret (v := .agg #[.slice a7 l7 c7, .bool d7]) (by simp [results, Tryz.results13, go_sem, HE.out.1, HE.out.2]) rfl ⟨_, rfl, by rw [HR.out]; exact N.mono (by omega), e3⟩
  · have hr : rnd n d = n.fdiv d + 1 := by unfold rnd; rw [if_pos (Or.inl hc)]
    rw [show cmpZ (n.fmod d + n.fmod d) d = 1 by unfold cmpZ; rw [if_neg (by omega), if_pos hc]]
    have HR := hid hr
    clear hr hc
    go_wp2_with fail
    have G0 : Below w4.heap.size w4 w4.drew := (Below.refl _ _).drew
    go_region_held3 (fun w' => w'.cell? ⟨w2.heap.size, 0, none⟩ = some (.slice a5 l5 c5) ∧ w'.cell? ⟨w2.heap.size, 1, none⟩ = some (.bool d5)) ((first | with_reducible exact keep2 q1 q2 G0 | with_reducible exact keep2 q1 q2 G1 | with_reducible exact keep2 q1 q2 G2 | exact ⟨two_keep0 (kc G2 q1) hne _ _, two_keep0 (kc G2 q2) hne _ _⟩)) (first
      | (have gk := G1; go_at_call 26; refine (nadd_any _ _ _ (n.fdiv d) 1 (K + 3 + 3) 2 (by omega) (by omega) (n4.below G1) g6).mono ?_; rintro e w7 ⟨v7, rfl, g7, f7⟩; have G2 := chain2 G1 f7; obtain ⟨a7, l7, c7, d7, rfl⟩ := num_form g7; have yE := box_below G2 y4 (lt_of_block y4); have u0 := two_cell0 yE; have u1 := two_cell1 yE; have u2 := two_free (k := 0) yE; have u3 := two_free (k := 1) yE)
      | (have gk := G0; go_at_call 11; refine (nof_any _ 1 (by decide) (by decide)).mono ?_; rintro e w6 ⟨v6, rfl, g6, f6⟩; have G1 := chain2 G0 f6))
    obtain ⟨e1, e2, e3⟩ := end_two (chain2 C4 G2) (Nat.le_succ w.heap.size) yE (.slice a7 l7 c7) (.bool d7)
    have N := (g7).box2 yE (by decide) (.slice a7 l7 c7) (.bool d7)
    have HE := hid (And.intro e1 e2)
    clear e1 e2
    go_wp2
    exact bodyPost_ret (v := .agg #[.slice a7 l7 c7, .bool d7]) (by simp [results, Tryz.results13, go_sem, HE.out.1, HE.out.2]) rfl ⟨_, rfl, by rw [HR.out]; exact N.mono (by omega), e3⟩
end Go.Proofs.YtjldlmonccgopaaGreatDoor
