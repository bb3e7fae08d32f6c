/- Fractions: Round of the document. -/
import Derived.Test.YtjldlmonccgopaaGreatDoorZTFloor
import Derived.Test.YtjldlmonccgopaaGreatDoorZPShMath
import Derived.Test.YtjldlmonccgopaaGreatDoorZPTOps
import Derived.Test.YtjldlmonccgopaaGreatDoorPk23
namespace Go.Proofs.YtjldlmonccgopaaGreatDoor
open Go.RowKit
set_option linter.unusedVariables false
set_option maxRecDepth 100000
set_option linter.unusedSimpArgs false
attribute [local go_sem ↓] Go.wp_at_zero Go.wp_at_succ

/-- Twice what the floor leaves over, held against one, is twice the rest held against the denominator. -/
theorem twice_eq {n d : Int} (hd : 0 < d) : cmpZ (mkN (mkN (n * 1 + -n.fdiv d * d) (d * 1) * 2) (mkD (n * 1 + -n.fdiv d * d) (d * 1) * 1) * 1) (1 * mkD (mkN (n * 1 + -n.fdiv d * d) (d * 1) * 2) (mkD (n * 1 + -n.fdiv d * d) (d * 1) * 1)) = cmpZ (n.fmod d + n.fmod d) d := by
  have h1 : d * 1 ≠ 0 := by omega
  have e1 : mkN (n * 1 + -n.fdiv d * d) (d * 1) = lowN (n * 1 + -n.fdiv d * d) (d * 1) := by rw [mkN, if_neg h1]
  have e2 : mkD (n * 1 + -n.fdiv d * d) (d * 1) = lowD (n * 1 + -n.fdiv d * d) (d * 1) := by rw [mkD, if_neg h1]
  have p := low_pos (x := n * 1 + -n.fdiv d * d) h1
  have h2 : lowD (n * 1 + -n.fdiv d * d) (d * 1) * 1 ≠ 0 := by omega
  rw [e1, e2, mkN, if_neg h2, mkD, if_neg h2, cmp_low_left (by omega)]
  have e4 : lowN (n * 1 + -n.fdiv d * d) (d * 1) * 2 * 1 = lowN (n * 1 + -n.fdiv d * d) (d * 1) * 2 := Int.mul_one _
  have e5 : 1 * (lowD (n * 1 + -n.fdiv d * d) (d * 1) * 1) = 1 * lowD (n * 1 + -n.fdiv d * d) (d * 1) := by rw [Int.mul_one (lowD _ _)]
  rw [e4, e5, cmp_low_left (by omega)]
  obtain ⟨k1, k2, k3⟩ := fd_def (n := n) hd
  have e3 : (n * 1 + -n.fdiv d * d) * 2 = n.fmod d + n.fmod d := by rw [Int.neg_mul, Int.mul_comm (n.fdiv d) d]; omega
  rw [e3, Int.one_mul, Int.mul_one]
set_option maxHeartbeats 20000000 in
theorem tround_any (w : World) (v : Value) (n d : Int) (K : Nat) (hK : K ≤ 100000) (h : TRatIs w v n d K) (hd : 0 < d) :
    Calls Tryz.prog 18 #[v] w fun e w' => ∃ v, e = .returned v ∧ RNumIs w' v (rnd n d) (K + 8) ∧ Below w.heap.size w w' := by
  have h0 := h
  have HT := hid (twice_eq (n := n) hd)
  obtain ⟨a1, l1, c1, a2, l2, c2, m, rfl, h1, _⟩ := h
  generalize decide (n < 0) = b1 at *
  generalize decide (m < 0) = b2 at *
  have hx := boxed2_first w (Obj.cells #[.bool b1, .slice a1 l1 c1, .bool b2, .slice a2 l2 c2] 36) (Obj.cells #[.bool false, .slice none 0 0] 34)
  have hy := boxed2_second w (Obj.cells #[.bool b1, .slice a1 l1 c1, .bool b2, .slice a2 l2 c2] 36) (Obj.cells #[.bool false, .slice none 0 0] 34)
  have hB := boxed2 (Below.refl w.heap.size w) (Obj.cells #[.bool b1, .slice a1 l1 c1, .bool b2, .slice a2 l2 c2] 36) (Obj.cells #[.bool false, .slice none 0 0] 34)
  have Ra := h0.below hB
  clear h1 h0
  obtain ⟨t1, t2, t3, t4⟩ := four_cell hx
  go_enter Tryz.func18, Tryz.ntmps18
  go_wp2_with fail
  generalize (w.alloc (Obj.cells #[.bool b1, .slice a1 l1 c1, .bool b2, .slice a2 l2 c2] 36)).alloc (Obj.cells #[.bool false, .slice none 0 0] 34) = W0 at *
  refine (tfloor_any _ _ n d K (by omega) Ra (by omega)).mono ?_
  rintro e w1 ⟨v1, rfl, n1, hb1⟩
  obtain ⟨a3, l3, c3, d3, rfl⟩ := rnum_form n1
  clear t1 t2 t3 t4
  have hne : w1.heap.size ≠ w.heap.size + 1 := Nat.ne_of_gt (lt_of_block (box_below hb1 hy (lt_of_block hy)))
  have x1 := box_alloc (box_below hb1 hx (lt_of_block hx)) (Obj.cells #[.bool d3, .slice a3 l3 c3] 34)
  have y1 := box_alloc (box_below hb1 hy (lt_of_block hy)) (Obj.cells #[.bool d3, .slice a3 l3 c3] 34)
  have z1 := box_new w1 (Obj.cells #[.bool d3, .slice a3 l3 c3] 34)
  have B1 : Below W0.heap.size W0 (w1.alloc (Obj.cells #[.bool d3, .slice a3 l3 c3] 34)) := below_alloc' hb1 (Nat.le_refl _) _
  have Nf := n1.below ((Below.refl _ _).alloc (Nat.le_refl _) (Obj.cells #[.bool d3, .slice a3 l3 c3] 34))
  have C1 := chain2 hB B1
  have Ra := Ra.below B1
  obtain ⟨t1, t2, t3, t4⟩ := four_cell x1
  have s1 := two_cell0 z1
  have s2 := two_cell1 z1
  clear hx hy hb1 n1 hB B1
  go_wp2_with fail
  generalize w1.alloc (Obj.cells #[.bool d3, .slice a3 l3 c3] 34) = W1 at *
  generalize w1.heap.size = k3 at *
  have B0 : Below W1.heap.size W1 W1.drew := (Below.refl _ _).drew
  have KP : ∀ w' : World, Below W1.heap.size W1 w' → (w'.cell? ⟨w.heap.size, 0, none⟩ = some (.bool b1) ∧ w'.cell? ⟨w.heap.size, 1, none⟩ = some (.slice a1 l1 c1) ∧ w'.cell? ⟨w.heap.size, 2, none⟩ = some (.bool b2) ∧ w'.cell? ⟨w.heap.size, 3, none⟩ = some (.slice a2 l2 c2) ∧ w'.cell? ⟨k3, 0, none⟩ = some (.bool d3) ∧ w'.cell? ⟨k3, 1, none⟩ = some (.slice a3 l3 c3)) := fun w' hb => ⟨kc hb t1, kc hb t2, kc hb t3, kc hb t4, kc hb s1, kc hb s2⟩
  rename_i K2 hK2
  go_region_held3 (fun w' => w'.cell? ⟨w.heap.size, 0, none⟩ = some (.bool b1) ∧ w'.cell? ⟨w.heap.size, 1, none⟩ = some (.slice a1 l1 c1) ∧ w'.cell? ⟨w.heap.size, 2, none⟩ = some (.bool b2) ∧ w'.cell? ⟨w.heap.size, 3, none⟩ = some (.slice a2 l2 c2) ∧ w'.cell? ⟨k3, 0, none⟩ = some (.bool d3) ∧ w'.cell? ⟨k3, 1, none⟩ = some (.slice a3 l3 c3)) ((first | with_reducible exact KP _ B0 | with_reducible exact KP _ B1 | with_reducible exact KP _ B2 | with_reducible exact KP _ B3 | with_reducible exact KP _ B4 | with_reducible exact KP _ B5 | with_reducible exact KP _ B6)) (first
    | (have gk := B5; go_at_call 45; refine (tcmp_any _ _ _ _ _ 1 1 (2 * (2 * (K + 7 + 3) + 6) + 6) (by omega) R4 (R5.mono (by omega))).mono ?_; rintro e u6 ⟨rfl, f6⟩; rw [HT.out]; have B6 := chain2 B5 f6)
    | (have gk := B4; go_at_call 44; refine (tof_any _ 1 (by decide) (by decide)).mono ?_; rintro e u5 ⟨v5, rfl, R5, f5⟩; have B5 := chain2 B4 f5; have R4 := R4.below f5)
    | (have gk := B3; go_at_call 43; refine (tmul_any _ _ _ (mkN (n * 1 + -n.fdiv d * d) (d * 1)) (mkD (n * 1 + -n.fdiv d * d) (d * 1)) 2 1 (2 * (K + 7 + 3) + 6) (by omega) R2 (R3.mono (by omega))).mono ?_; rintro e u4 ⟨v4, rfl, R4, f4⟩; have B4 := chain2 B3 f4)
    | (have gk := B2; go_at_call 44; refine (tof_any _ 2 (by decide) (by decide)).mono ?_; rintro e u3 ⟨v3, rfl, R3, f3⟩; have B3 := chain2 B2 f3; have R2 := R2.below f3)
    | (have gk := B1; go_at_call 41; refine (tsub_any _ _ _ n d (n.fdiv d) 1 (K + 7) (by omega) ((Ra.below B1).mono (by omega)) (trat_of (Nf.below B1) (n1.mono (by omega)) (by decide)) (by omega) (by decide)).mono ?_; rintro e u2 ⟨v2, rfl, R2, f2⟩; have B2 := chain2 B1 f2)
    | (have gk := B0; go_at_call 42; refine (sof_any _ 1 (by decide) (by decide)).mono ?_; rintro e u1 ⟨v1, rfl, n1, f1⟩; obtain ⟨a4, l4, c4, d4, rfl⟩ := rnum_form n1; have B1 := chain2 B0 f1))
  change K2 _ _
  refine hK2 _ _ ?_
  have y6 := box_below B6 y1 (lt_of_block y1)
  have q1 := kc B6 s1
  have q2 := kc B6 s2
  have Nf := Nf.below B6
  have C6 := chain2 C1 B6
  clear hK2 KP B1 B2 B3 B4 B5 B6 f1 f2 f3 f4 f5 f6 R2 R3 R4 R5 n1 HT y1 z1 x1 s1 s2 t1 t2 t3 t4 Ra C1 B0
  go_wp2_with fail
  obtain ⟨W, hW⟩ : ∃ W, u6 = W := ⟨_, rfl⟩
  subst hW
  have B0 : Below u6.heap.size u6 u6.drew := (Below.refl _ _).drew
  have kq1 := q1
  have kq2 := q2
  rename_i K1 hK1
  have tail1 : ∀ (V : World) (p q : Nat) (a5 : Option Addr) (l5 c5 : Nat) (d5 : Bool) (a6 : Option Addr) (l6 c6 : Nat) (d6 : Bool) (p7 p8 p9 p10 p11 p12 p13 p14 p15 p16 p17 p18 p19 p20 p21 p22 p23 p24 p25 : Value), sOut u6 V p q (.bool d5) (.slice a5 l5 c5) (.bool d6) (.slice a6 l6 c6) ((n.fdiv d).fdiv 2) (K + 7 + 4) ((n.fdiv d).fmod 2) (K + 7 + 1) → K1 { tmps := #[Value.agg #[Value.bool b1, Value.slice a1 l1 c1, Value.bool b2, Value.slice a2 l2 c2], Value.pointer (some { block := w.heap.size, off := 0 }), Value.pointer (some { block := w.heap.size + 1, off := 0 }), Value.pointer (some { block := k3, off := 0 }), Value.int IntKind.i64 (cmpZ (n.fmod d + n.fmod d) d), Value.pointer (some { block := p, off := 0 }), Value.pointer (some { block := q, off := 0 }), p7, p8, p9, p10, p11, p12, p13, p14, p15, p16, p17, p18, p19, p20, p21, p22, p23, p24, p25, undef, undef, undef, undef, undef, undef, undef, undef, undef, undef, undef, undef, undef, undef, undef], defers := [] } V := by
    rintro V p q a5 l5 c5 d5 a6 l6 c6 d6 p7 p8 p9 p10 p11 p12 p13 p14 p15 p16 p17 p18 p19 p20 p21 p22 p23 p24 p25 ⟨h1, h2, h3, h4, h5, h6, h7⟩
    refine hK1 _ _ ?_
    clear hK1 B0
    have yV := box_below h5 y6 (lt_of_block y6)
    have q1 := kc h5 q1
    have q2 := kc h5 q2
    have nV := Nf.below h5
    have CV := chain2 C6 h5
    have o0 := two_cell0 h2
    have o1 := two_cell1 h2
    clear h1 h2 h3 h4 h5 h6 y6 C6 Nf
    rcases Int.lt_trichotomy (n.fmod d + n.fmod d) d with hc | hc | hc
    · have hr : rnd n d = n.fdiv d := by unfold rnd; rw [if_neg (by omega)]
      rw [show cmpZ (n.fmod d + n.fmod d) d = -1 by unfold cmpZ; rw [if_pos hc]]
      have HR := hid hr
      clear hr hc
      have yE := yV
      have u0 := two_cell0 yE
      have u1 := two_cell1 yE
      have u2 := two_free (k := 0) yE
      have u3 := two_free (k := 1) yE
      obtain ⟨e1, e2, e3⟩ := end_two CV (Nat.le_succ w.heap.size) yE (.bool d3) (.slice a3 l3 c3)
      have N := (nV).box2 yE (by decide) (.bool d3) (.slice a3 l3 c3)
      have HE := hid (And.intro e1 e2)
      clear e1 e2
      go_wp2
      exact bodyPost_ret (v := .agg #[.bool d3, .slice a3 l3 c3]) (by simp [results, Tryz.results18, go_sem, HE.out.1, HE.out.2]) rfl ⟨_, rfl, by rw [HR.out]; exact N.mono (by omega), e3⟩
    · rw [show cmpZ (n.fmod d + n.fmod d) d = 0 by unfold cmpZ; rw [if_neg (by omega), if_neg (by omega)]]
      have HC := hid hc
      clear hc
      go_wp2_with fail
      refine (ssign_any _ _ ((n.fdiv d).fmod 2) (K + 7 + 1) (by omega) h7).mono ?_
      rintro e w5 ⟨rfl, f5⟩
      rw [sign_odd]
      have y5 := box_below f5 yV (lt_of_block yV)
      have q1 := kc f5 q1
      have q2 := kc f5 q2
      have n5 := nV.below f5
      have C5 := chain2 CV f5
      clear f5 yV nV CV
      by_cases ho : (n.fdiv d).fmod 2 = 0
      · have HR := hid (show rnd n d = n.fdiv d by unfold rnd; rw [if_neg (by have := HC.out; omega)])
        rw [if_pos ho]
        clear ho HC
        have yE := y5
        have u0 := two_cell0 yE
        have u1 := two_cell1 yE
        have u2 := two_free (k := 0) yE
        have u3 := two_free (k := 1) yE
        obtain ⟨e1, e2, e3⟩ := end_two C5 (Nat.le_succ w.heap.size) yE (.bool d3) (.slice a3 l3 c3)
        have N := (n5).box2 yE (by decide) (.bool d3) (.slice a3 l3 c3)
        have HE := hid (And.intro e1 e2)
        clear e1 e2
        go_wp2
        exact bodyPost_ret (v := .agg #[.bool d3, .slice a3 l3 c3]) (by simp [results, Tryz.results18, go_sem, HE.out.1, HE.out.2]) rfl ⟨_, rfl, by rw [HR.out]; exact N.mono (by omega), e3⟩
      · have HR := hid (show rnd n d = n.fdiv d + 1 by unfold rnd; rw [if_pos (Or.inr ⟨HC.out, ho⟩)])
        rw [if_neg ho]
        clear ho HC
        go_wp2_with fail
        have G0 : Below w5.heap.size w5 w5.drew := (Below.refl _ _).drew
        go_region_held3 (fun w' => w'.cell? ⟨k3, 0, none⟩ = some (.bool d3) ∧ w'.cell? ⟨k3, 1, none⟩ = some (.slice a3 l3 c3)) ((first | with_reducible exact keep2 q1 q2 G0 | with_reducible exact keep2 q1 q2 G1 | with_reducible exact keep2 q1 q2 G2 | exact ⟨two_keep0 (kc G2 q1) hne _ _, two_keep0 (kc G2 q2) hne _ _⟩)) (first
          | (have gk := G1; go_at_call 47; refine (sadd_any _ _ _ (n.fdiv d) 1 (K + 7) 3 (by omega) (by omega) (n5.below G1) g6).mono ?_; rintro e w7 ⟨v7, rfl, g7, f7⟩; have G2 := chain2 G1 f7; obtain ⟨a7, l7, c7, d7, rfl⟩ := rnum_form g7; have yE := box_below G2 y5 (lt_of_block y5); have u0 := two_cell0 yE; have u1 := two_cell1 yE; have u2 := two_free (k := 0) yE; have u3 := two_free (k := 1) yE)
          | (have gk := G0; go_at_call 42; refine (sof_any _ 1 (by decide) (by decide)).mono ?_; rintro e w6 ⟨v6, rfl, g6, f6⟩; have G1 := chain2 G0 f6))
        obtain ⟨e1, e2, e3⟩ := end_two (chain2 C5 G2) (Nat.le_succ w.heap.size) yE (.bool d7) (.slice a7 l7 c7)
        have N := (g7).box2 yE (by decide) (.bool d7) (.slice a7 l7 c7)
        have HE := hid (And.intro e1 e2)
        clear e1 e2
        go_wp2
        exact bodyPost_ret (v := .agg #[.bool d7, .slice a7 l7 c7]) (by simp [results, Tryz.results18, go_sem, HE.out.1, HE.out.2]) rfl ⟨_, rfl, by rw [HR.out]; exact N.mono (by omega), e3⟩
    · have hr : rnd n d = n.fdiv d + 1 := by unfold rnd; rw [if_pos (Or.inl hc)]
      rw [show cmpZ (n.fmod d + n.fmod d) d = 1 by unfold cmpZ; rw [if_neg (by omega), if_pos hc]]
      have HR := hid hr
      clear hr hc
      go_wp2_with fail
      have G0 : Below V.heap.size V V.drew := (Below.refl _ _).drew
      go_region_held3 (fun w' => w'.cell? ⟨k3, 0, none⟩ = some (.bool d3) ∧ w'.cell? ⟨k3, 1, none⟩ = some (.slice a3 l3 c3)) ((first | with_reducible exact keep2 q1 q2 G0 | with_reducible exact keep2 q1 q2 G1 | with_reducible exact keep2 q1 q2 G2 | exact ⟨two_keep0 (kc G2 q1) hne _ _, two_keep0 (kc G2 q2) hne _ _⟩)) (first
        | (have gk := G1; go_at_call 47; refine (sadd_any _ _ _ (n.fdiv d) 1 (K + 7) 3 (by omega) (by omega) (nV.below G1) g6).mono ?_; rintro e w7 ⟨v7, rfl, g7, f7⟩; have G2 := chain2 G1 f7; obtain ⟨a7, l7, c7, d7, rfl⟩ := rnum_form g7; have yE := box_below G2 yV (lt_of_block yV); have u0 := two_cell0 yE; have u1 := two_cell1 yE; have u2 := two_free (k := 0) yE; have u3 := two_free (k := 1) yE)
        | (have gk := G0; go_at_call 42; refine (sof_any _ 1 (by decide) (by decide)).mono ?_; rintro e w6 ⟨v6, rfl, g6, f6⟩; have G1 := chain2 G0 f6))
      obtain ⟨e1, e2, e3⟩ := end_two (chain2 CV G2) (Nat.le_succ w.heap.size) yE (.bool d7) (.slice a7 l7 c7)
      have N := (g7).box2 yE (by decide) (.bool d7) (.slice a7 l7 c7)
      have HE := hid (And.intro e1 e2)
      clear e1 e2
      go_wp2
      exact bodyPost_ret (v := .agg #[.bool d7, .slice a7 l7 c7]) (by simp [results, Tryz.results18, go_sem, HE.out.1, HE.out.2]) rfl ⟨_, rfl, by rw [HR.out]; exact N.mono (by omega), e3⟩
  go_region_held3 (fun w' => w'.cell? ⟨k3, 0, none⟩ = some (.bool d3) ∧ w'.cell? ⟨k3, 1, none⟩ = some (.slice a3 l3 c3)) ((refine keep2 kq1 kq2 ?_; first | with_reducible exact B0 | with_reducible exact dbel1 u6 _ | with_reducible exact dbel2 u6 _ _ | with_reducible exact B1 | with_reducible exact B2 | with_reducible exact below_alloc' B1 (Nat.le_refl _) _ | with_reducible exact below_alloc' B2 (Nat.le_refl _) _ | with_reducible exact below_alloc' (below_alloc' B1 (Nat.le_refl _) _) (Nat.le_refl _) _ | with_reducible exact below_alloc' (below_alloc' B2 (Nat.le_refl _) _) (Nat.le_refl _) _ | with_reducible exact (B2.setCell (p := ⟨_, 0, none⟩) E1 _).setCell (p := ⟨_, 1, none⟩) E1 _ | with_reducible exact (B2.setCell (p := ⟨_, 0, none⟩) E2 _).setCell (p := ⟨_, 1, none⟩) E2 _ | with_reducible exact (B2.setCell (p := ⟨_, 0, none⟩) E3 _).setCell (p := ⟨_, 1, none⟩) E3 _ | with_reducible exact (B2.setCell (p := ⟨_, 0, none⟩) E4 _).setCell (p := ⟨_, 1, none⟩) E4 _ | with_reducible exact below_alloc' ((B2.setCell (p := ⟨_, 0, none⟩) E1 _).setCell (p := ⟨_, 1, none⟩) E1 _) (Nat.le_refl _) _ | with_reducible exact below_alloc' ((B2.setCell (p := ⟨_, 0, none⟩) E2 _).setCell (p := ⟨_, 1, none⟩) E2 _) (Nat.le_refl _) _ | with_reducible exact below_alloc' ((B2.setCell (p := ⟨_, 0, none⟩) E3 _).setCell (p := ⟨_, 1, none⟩) E3 _) (Nat.le_refl _) _ | with_reducible exact below_alloc' ((B2.setCell (p := ⟨_, 0, none⟩) E4 _).setCell (p := ⟨_, 1, none⟩) E4 _) (Nat.le_refl _) _ | with_reducible exact (((B2.setCell (p := ⟨_, 0, none⟩) E1 _).setCell (p := ⟨_, 1, none⟩) E1 _).setCell (p := ⟨_, 0, none⟩) E2 _).setCell (p := ⟨_, 1, none⟩) E2 _ | with_reducible exact (((B2.setCell (p := ⟨_, 0, none⟩) E1 _).setCell (p := ⟨_, 1, none⟩) E1 _).setCell (p := ⟨_, 0, none⟩) E3 _).setCell (p := ⟨_, 1, none⟩) E3 _ | with_reducible exact (((B2.setCell (p := ⟨_, 0, none⟩) E1 _).setCell (p := ⟨_, 1, none⟩) E1 _).setCell (p := ⟨_, 0, none⟩) E4 _).setCell (p := ⟨_, 1, none⟩) E4 _ | with_reducible exact (((B2.setCell (p := ⟨_, 0, none⟩) E2 _).setCell (p := ⟨_, 1, none⟩) E2 _).setCell (p := ⟨_, 0, none⟩) E1 _).setCell (p := ⟨_, 1, none⟩) E1 _ | with_reducible exact (((B2.setCell (p := ⟨_, 0, none⟩) E2 _).setCell (p := ⟨_, 1, none⟩) E2 _).setCell (p := ⟨_, 0, none⟩) E3 _).setCell (p := ⟨_, 1, none⟩) E3 _ | with_reducible exact (((B2.setCell (p := ⟨_, 0, none⟩) E2 _).setCell (p := ⟨_, 1, none⟩) E2 _).setCell (p := ⟨_, 0, none⟩) E4 _).setCell (p := ⟨_, 1, none⟩) E4 _ | with_reducible exact (((B2.setCell (p := ⟨_, 0, none⟩) E3 _).setCell (p := ⟨_, 1, none⟩) E3 _).setCell (p := ⟨_, 0, none⟩) E1 _).setCell (p := ⟨_, 1, none⟩) E1 _ | with_reducible exact (((B2.setCell (p := ⟨_, 0, none⟩) E3 _).setCell (p := ⟨_, 1, none⟩) E3 _).setCell (p := ⟨_, 0, none⟩) E2 _).setCell (p := ⟨_, 1, none⟩) E2 _ | with_reducible exact (((B2.setCell (p := ⟨_, 0, none⟩) E3 _).setCell (p := ⟨_, 1, none⟩) E3 _).setCell (p := ⟨_, 0, none⟩) E4 _).setCell (p := ⟨_, 1, none⟩) E4 _ | with_reducible exact (((B2.setCell (p := ⟨_, 0, none⟩) E4 _).setCell (p := ⟨_, 1, none⟩) E4 _).setCell (p := ⟨_, 0, none⟩) E1 _).setCell (p := ⟨_, 1, none⟩) E1 _ | with_reducible exact (((B2.setCell (p := ⟨_, 0, none⟩) E4 _).setCell (p := ⟨_, 1, none⟩) E4 _).setCell (p := ⟨_, 0, none⟩) E2 _).setCell (p := ⟨_, 1, none⟩) E2 _ | with_reducible exact (((B2.setCell (p := ⟨_, 0, none⟩) E4 _).setCell (p := ⟨_, 1, none⟩) E4 _).setCell (p := ⟨_, 0, none⟩) E3 _).setCell (p := ⟨_, 1, none⟩) E3 _ | with_reducible exact ((below_alloc' B2 (Nat.le_refl _) _).setCell (p := ⟨_, 0, none⟩) E1 _).setCell (p := ⟨_, 1, none⟩) E1 _ | with_reducible exact ((below_alloc' B2 (Nat.le_refl _) _).setCell (p := ⟨_, 0, none⟩) E2 _).setCell (p := ⟨_, 1, none⟩) E2 _ | with_reducible exact ((below_alloc' B2 (Nat.le_refl _) _).setCell (p := ⟨_, 0, none⟩) E3 _).setCell (p := ⟨_, 1, none⟩) E3 _ | with_reducible exact ((below_alloc' B2 (Nat.le_refl _) _).setCell (p := ⟨_, 0, none⟩) E4 _).setCell (p := ⟨_, 1, none⟩) E4 _)) (first
    | (have gk := B1; go_at_call 38; refine (sdm_any _ _ _ (n.fdiv d) 2 (K + 7) (by omega) (Nf.below (by first | with_reducible exact B1 | with_reducible exact below_alloc' B1 (Nat.le_refl _) _ | with_reducible exact below_alloc' (below_alloc' B1 (Nat.le_refl _) _) (Nat.le_refl _) _)) ((n1.below (by first | with_reducible exact (Below.refl _ _) | with_reducible exact below_alloc' (Below.refl _ _) (Nat.le_refl _) _ | with_reducible exact below_alloc' (below_alloc' (Below.refl _ _) (Nat.le_refl _) _) (Nat.le_refl _) _)).mono (by omega)) (by decide)).mono ?_; rintro e w2 ⟨⟨q2, r2, rfl, n2, m2⟩, hb2⟩; obtain ⟨a5, l5, c5, d5, rfl⟩ := rnum_form n2; obtain ⟨a6, l6, c6, d6, rfl⟩ := rnum_form m2; have B2 : Below u6.heap.size u6 w2 := (by first | with_reducible exact chain2 B1 hb2 | with_reducible exact chain2 (below_alloc' B1 (Nat.le_refl _) _) hb2 | with_reducible exact chain2 (below_alloc' (below_alloc' B1 (Nat.le_refl _) _) (Nat.le_refl _) _) hb2); have s2 : Below w1.heap.size w1 w2 := (by first | with_reducible exact chain2 (Below.refl _ _) hb2 | with_reducible exact chain2 (below_alloc' (Below.refl _ _) (Nat.le_refl _) _) hb2 | with_reducible exact chain2 (below_alloc' (below_alloc' (Below.refl _ _) (Nat.le_refl _) _) (Nat.le_refl _) _) hb2); (try have x1 : w2.heap[u6.heap.size]? = some (Obj.cells #[Value.bool false, Value.slice none 0 0] 34) := box_below s2 z1 (lt_of_block z1)); (try have x2 : w2.heap[u6.heap.size + 1]? = some (Obj.cells #[Value.bool false, Value.slice none 0 0] 34) := box_below s2 z2 (lt_of_block z2)); (try have x3 : w2.heap[w1.heap.size]? = some (Obj.cells #[Value.bool false, Value.slice none 0 0] 34) := (by first | with_reducible exact box_below hb2 (box_new w1 (Obj.cells #[Value.bool false, Value.slice none 0 0] 34)) (lt_of_block (box_new w1 (Obj.cells #[Value.bool false, Value.slice none 0 0] 34))) | with_reducible exact box_below hb2 (boxed2_first w1 (Obj.cells #[Value.bool false, Value.slice none 0 0] 34) (Obj.cells #[Value.bool false, Value.slice none 0 0] 34)) (lt_of_block (boxed2_first w1 (Obj.cells #[Value.bool false, Value.slice none 0 0] 34) (Obj.cells #[Value.bool false, Value.slice none 0 0] 34))))); (try have x4 : w2.heap[w1.heap.size + 1]? = some (Obj.cells #[Value.bool false, Value.slice none 0 0] 34) := (by with_reducible exact box_below hb2 (boxed2_second w1 (Obj.cells #[Value.bool false, Value.slice none 0 0] 34) (Obj.cells #[Value.bool false, Value.slice none 0 0] 34)) (lt_of_block (boxed2_second w1 (Obj.cells #[Value.bool false, Value.slice none 0 0] 34) (Obj.cells #[Value.bool false, Value.slice none 0 0] 34))))); have E1 : u6.heap.size ≤ u6.heap.size := Nat.le_refl _; have E2 : u6.heap.size ≤ u6.heap.size + 1 := Nat.le_succ _; have E3 : u6.heap.size ≤ w1.heap.size := B1.size; have E4 : u6.heap.size ≤ w1.heap.size + 1 := Nat.le_succ_of_le B1.size; (try have l1 := lt_of_block x1); (try have ln1 : ¬ u6.heap.size = w2.heap.size := Nat.ne_of_lt l1); (try have lm1 : ¬ w2.heap.size = u6.heap.size := Nat.ne_of_gt l1); (try have c1 := two_cell0 x1); (try have d1 := two_cell1 x1); (try have f1 := two_free (k := 0) x1); (try have g1 := two_free (k := 1) x1); (try have p1 := (two_then x1).1); (try have q1 := (two_then x1).2.1); (try have r1 := (two_then x1).2.2.1); (try have s1 := (two_then x1).2.2.2); (try have l2 := lt_of_block x2); (try have ln2 : ¬ u6.heap.size + 1 = w2.heap.size := Nat.ne_of_lt l2); (try have lm2 : ¬ w2.heap.size = u6.heap.size + 1 := Nat.ne_of_gt l2); (try have c2 := two_cell0 x2); (try have d2 := two_cell1 x2); (try have f2 := two_free (k := 0) x2); (try have g2 := two_free (k := 1) x2); (try have p2 := (two_then x2).1); (try have q2 := (two_then x2).2.1); (try have r2 := (two_then x2).2.2.1); (try have s2 := (two_then x2).2.2.2); (try have l3 := lt_of_block x3); (try have ln3 : ¬ w1.heap.size = w2.heap.size := Nat.ne_of_lt l3); (try have lm3 : ¬ w2.heap.size = w1.heap.size := Nat.ne_of_gt l3); (try have c3 := two_cell0 x3); (try have d3 := two_cell1 x3); (try have f3 := two_free (k := 0) x3); (try have g3 := two_free (k := 1) x3); (try have p3 := (two_then x3).1); (try have q3 := (two_then x3).2.1); (try have r3 := (two_then x3).2.2.1); (try have s3 := (two_then x3).2.2.2); (try have l4 := lt_of_block x4); (try have ln4 : ¬ w1.heap.size + 1 = w2.heap.size := Nat.ne_of_lt l4); (try have lm4 : ¬ w2.heap.size = w1.heap.size + 1 := Nat.ne_of_gt l4); (try have c4 := two_cell0 x4); (try have d4 := two_cell1 x4); (try have f4 := two_free (k := 0) x4); (try have g4 := two_free (k := 1) x4); (try have p4 := (two_then x4).1); (try have q4 := (two_then x4).2.1); (try have r4 := (two_then x4).2.2.1); (try have s4 := (two_then x4).2.2.2); (try have ne12 : u6.heap.size ≠ u6.heap.size + 1 := Nat.ne_of_lt (Nat.lt_succ_self _)); (try have en12 : u6.heap.size + 1 ≠ u6.heap.size := fun e => ne12 e.symm); (try have u12 := (two_past x1 ne12).1); (try have u21 := (two_past x2 en12).1); (try have v12 := (two_past x1 ne12).2.1); (try have v21 := (two_past x2 en12).2.1); (try have m12 := (two_past x1 ne12).2.2.1); (try have m21 := (two_past x2 en12).2.2.1); (try have o12 := (two_past x1 ne12).2.2.2); (try have o21 := (two_past x2 en12).2.2.2); (try have ne13 : u6.heap.size ≠ w1.heap.size := Nat.ne_of_lt (lt_of_block z1)); (try have en13 : w1.heap.size ≠ u6.heap.size := fun e => ne13 e.symm); (try have u13 := (two_past x1 ne13).1); (try have u31 := (two_past x3 en13).1); (try have v13 := (two_past x1 ne13).2.1); (try have v31 := (two_past x3 en13).2.1); (try have m13 := (two_past x1 ne13).2.2.1); (try have m31 := (two_past x3 en13).2.2.1); (try have o13 := (two_past x1 ne13).2.2.2); (try have o31 := (two_past x3 en13).2.2.2); (try have ne34 : w1.heap.size ≠ w1.heap.size + 1 := Nat.ne_of_lt (Nat.lt_succ_self _)); (try have en34 : w1.heap.size + 1 ≠ w1.heap.size := fun e => ne34 e.symm); (try have u34 := (two_past x3 ne34).1); (try have u43 := (two_past x4 en34).1); (try have v34 := (two_past x3 ne34).2.1); (try have v43 := (two_past x4 en34).2.1); (try have m34 := (two_past x3 ne34).2.2.1); (try have m43 := (two_past x4 en34).2.2.1); (try have o34 := (two_past x3 ne34).2.2.2); (try have o43 := (two_past x4 en34).2.2.2); skip)
    | (go_at_call 42; refine (sof_any _ 2 (by decide) (by decide)).mono ?_; rintro e w1 ⟨v1, rfl, n1, hb1⟩; have B1 : Below u6.heap.size u6 w1 := (by first | with_reducible exact chain2 B0 hb1 | with_reducible exact chain2 (dbel1 u6 _) hb1 | with_reducible exact chain2 (dbel2 u6 _ _) hb1); (try have z1 : w1.heap[u6.heap.size]? = some (Obj.cells #[Value.bool false, Value.slice none 0 0] 34) := (by first | with_reducible exact box_below hb1 (dnew1 u6 (Obj.cells #[Value.bool false, Value.slice none 0 0] 34)) (lt_of_block (dnew1 u6 (Obj.cells #[Value.bool false, Value.slice none 0 0] 34))) | with_reducible exact box_below hb1 (dnew2 u6 (Obj.cells #[Value.bool false, Value.slice none 0 0] 34) (Obj.cells #[Value.bool false, Value.slice none 0 0] 34)) (lt_of_block (dnew2 u6 (Obj.cells #[Value.bool false, Value.slice none 0 0] 34) (Obj.cells #[Value.bool false, Value.slice none 0 0] 34))))); (try have z2 : w1.heap[u6.heap.size + 1]? = some (Obj.cells #[Value.bool false, Value.slice none 0 0] 34) := (by with_reducible exact box_below hb1 (dnew3 u6 (Obj.cells #[Value.bool false, Value.slice none 0 0] 34) (Obj.cells #[Value.bool false, Value.slice none 0 0] 34)) (lt_of_block (dnew3 u6 (Obj.cells #[Value.bool false, Value.slice none 0 0] 34) (Obj.cells #[Value.bool false, Value.slice none 0 0] 34)))))))

  all_goals change K1 _ _
  all_goals first | with_reducible exact tail1 _ _ _ _ _ _ _ _ _ _ _ _ _ _ _ _ _ _ _ _ _ _ _ _ _ _ _ _ _ _  (sout1 B2 n2 m2) | with_reducible exact tail1 _ _ _ _ _ _ _ _ _ _ _ _ _ _ _ _ _ _ _ _ _ _ _ _ _ _ _ _ _ _  (sout2 B2 n2 m2) | with_reducible exact tail1 _ _ _ _ _ _ _ _ _ _ _ _ _ _ _ _ _ _ _ _ _ _ _ _ _ _ _ _ _ _  (sout3 B2 n2 m2 x1 E1) | with_reducible exact tail1 _ _ _ _ _ _ _ _ _ _ _ _ _ _ _ _ _ _ _ _ _ _ _ _ _ _ _ _ _ _  (sout3 B2 n2 m2 x2 E2) | with_reducible exact tail1 _ _ _ _ _ _ _ _ _ _ _ _ _ _ _ _ _ _ _ _ _ _ _ _ _ _ _ _ _ _  (sout3 B2 n2 m2 x3 E3) | with_reducible exact tail1 _ _ _ _ _ _ _ _ _ _ _ _ _ _ _ _ _ _ _ _ _ _ _ _ _ _ _ _ _ _  (sout3 B2 n2 m2 x4 E4) | with_reducible exact tail1 _ _ _ _ _ _ _ _ _ _ _ _ _ _ _ _ _ _ _ _ _ _ _ _ _ _ _ _ _ _  (sout5 B2 n2 m2 x1 E1) | with_reducible exact tail1 _ _ _ _ _ _ _ _ _ _ _ _ _ _ _ _ _ _ _ _ _ _ _ _ _ _ _ _ _ _  (sout5 B2 n2 m2 x2 E2) | with_reducible exact tail1 _ _ _ _ _ _ _ _ _ _ _ _ _ _ _ _ _ _ _ _ _ _ _ _ _ _ _ _ _ _  (sout5 B2 n2 m2 x3 E3) | with_reducible exact tail1 _ _ _ _ _ _ _ _ _ _ _ _ _ _ _ _ _ _ _ _ _ _ _ _ _ _ _ _ _ _  (sout5 B2 n2 m2 x4 E4) | with_reducible exact tail1 _ _ _ _ _ _ _ _ _ _ _ _ _ _ _ _ _ _ _ _ _ _ _ _ _ _ _ _ _ _  (sout6 B2 n2 m2 x1 E1) | with_reducible exact tail1 _ _ _ _ _ _ _ _ _ _ _ _ _ _ _ _ _ _ _ _ _ _ _ _ _ _ _ _ _ _  (sout6 B2 n2 m2 x2 E2) | with_reducible exact tail1 _ _ _ _ _ _ _ _ _ _ _ _ _ _ _ _ _ _ _ _ _ _ _ _ _ _ _ _ _ _  (sout6 B2 n2 m2 x3 E3) | with_reducible exact tail1 _ _ _ _ _ _ _ _ _ _ _ _ _ _ _ _ _ _ _ _ _ _ _ _ _ _ _ _ _ _  (sout6 B2 n2 m2 x4 E4) | with_reducible exact tail1 _ _ _ _ _ _ _ _ _ _ _ _ _ _ _ _ _ _ _ _ _ _ _ _ _ _ _ _ _ _  (sout7 B2 n2 m2 x1 E1) | with_reducible exact tail1 _ _ _ _ _ _ _ _ _ _ _ _ _ _ _ _ _ _ _ _ _ _ _ _ _ _ _ _ _ _  (sout7 B2 n2 m2 x2 E2) | with_reducible exact tail1 _ _ _ _ _ _ _ _ _ _ _ _ _ _ _ _ _ _ _ _ _ _ _ _ _ _ _ _ _ _  (sout7 B2 n2 m2 x3 E3) | with_reducible exact tail1 _ _ _ _ _ _ _ _ _ _ _ _ _ _ _ _ _ _ _ _ _ _ _ _ _ _ _ _ _ _  (sout7 B2 n2 m2 x4 E4) | with_reducible exact tail1 _ _ _ _ _ _ _ _ _ _ _ _ _ _ _ _ _ _ _ _ _ _ _ _ _ _ _ _ _ _  (sout4 B2 n2 m2 x1 x2 E1 E2 ne12) | with_reducible exact tail1 _ _ _ _ _ _ _ _ _ _ _ _ _ _ _ _ _ _ _ _ _ _ _ _ _ _ _ _ _ _  (sout4 B2 n2 m2 x2 x1 E2 E1 en12) | with_reducible exact tail1 _ _ _ _ _ _ _ _ _ _ _ _ _ _ _ _ _ _ _ _ _ _ _ _ _ _ _ _ _ _  (sout4 B2 n2 m2 x1 x3 E1 E3 ne13) | with_reducible exact tail1 _ _ _ _ _ _ _ _ _ _ _ _ _ _ _ _ _ _ _ _ _ _ _ _ _ _ _ _ _ _  (sout4 B2 n2 m2 x3 x1 E3 E1 en13) | with_reducible exact tail1 _ _ _ _ _ _ _ _ _ _ _ _ _ _ _ _ _ _ _ _ _ _ _ _ _ _ _ _ _ _  (sout4 B2 n2 m2 x3 x4 E3 E4 ne34) | with_reducible exact tail1 _ _ _ _ _ _ _ _ _ _ _ _ _ _ _ _ _ _ _ _ _ _ _ _ _ _ _ _ _ _  (sout4 B2 n2 m2 x4 x3 E4 E3 en34) | with_reducible exact tail1 _ _ _ _ _ _ _ _ _ _ _ _ _ _ _ _ _ _ _ _ _ _ _ _ _ _ _ _ _ _  (sout8 B2 n2 m2 x1 x2 E1 E2 ne12) | with_reducible exact tail1 _ _ _ _ _ _ _ _ _ _ _ _ _ _ _ _ _ _ _ _ _ _ _ _ _ _ _ _ _ _  (sout8 B2 n2 m2 x2 x1 E2 E1 en12) | with_reducible exact tail1 _ _ _ _ _ _ _ _ _ _ _ _ _ _ _ _ _ _ _ _ _ _ _ _ _ _ _ _ _ _  (sout8 B2 n2 m2 x1 x3 E1 E3 ne13) | with_reducible exact tail1 _ _ _ _ _ _ _ _ _ _ _ _ _ _ _ _ _ _ _ _ _ _ _ _ _ _ _ _ _ _  (sout8 B2 n2 m2 x3 x1 E3 E1 en13) | with_reducible exact tail1 _ _ _ _ _ _ _ _ _ _ _ _ _ _ _ _ _ _ _ _ _ _ _ _ _ _ _ _ _ _  (sout8 B2 n2 m2 x3 x4 E3 E4 ne34) | with_reducible exact tail1 _ _ _ _ _ _ _ _ _ _ _ _ _ _ _ _ _ _ _ _ _ _ _ _ _ _ _ _ _ _  (sout8 B2 n2 m2 x4 x3 E4 E3 en34)
end Go.Proofs.YtjldlmonccgopaaGreatDoor
