/- NatGcds: what the call answers. -/
import Derived.Test.YtciecncdejlkkaaDoorNumber
import Derived.Test.YtciecncdejlkkaaDoorLaws
import Derived.Test.YtciecncdejlkkaaDoorEnds
import Derived.Test.YtciecncdejlkkaaDoorMul
import Derived.Test.YtciecncdejlkkaaDoorText
import Derived.Test.YtciecncdejlkkaaDoorGcd
namespace Go.Proofs.YtciecncdejlkkaaDoor
open Go.RowKit
set_option linter.unusedVariables false
set_option maxRecDepth 100000
set_option linter.unusedSimpArgs false
attribute [local go_sem ↓] Go.wp_at_zero Go.wp_at_succ

theorem one_text {s : ByteArray} (h : Txt s) (e : num s = 1) : s = ⟨#[49]⟩ := by
  have ht : Txt ⟨#[49]⟩ := by
    refine ⟨by decide, by decide, fun k hk => ?_⟩
    obtain rfl : k = 0 := by have : (⟨#[49]⟩ : ByteArray).size = 1 := rfl; omega
    decide
  exact num_inj h ht (by rw [e]; decide)
theorem zero_text {s : ByteArray} (h : Txt s) (e : num s = 0) : s = ⟨#[48]⟩ := by
  have ht : Txt ⟨#[48]⟩ := by
    refine ⟨by decide, by decide, fun k hk => ?_⟩
    obtain rfl : k = 0 := by have : (⟨#[48]⟩ : ByteArray).size = 1 := rfl; omega
    decide
  exact num_inj h ht (by rw [e]; decide)
theorem not_zero {y : ByteArray} (h : ¬ num y = 0) : (y.toList == [48]) = false := by
  refine beq_eq_false_iff_ne.2 fun e => h ?_
  rw [Lib.toList_data] at e
  have : y = ⟨#[48]⟩ := by
    cases y with
    | mk d => exact congrArg ByteArray.mk (Array.toList_inj.1 (by simpa using e))
  rw [this]; decide
theorem gcd_parts {X Y : Nat} (hx : X ≠ 0) : Nat.gcd X Y ≠ 0 ∧ X % Nat.gcd X Y = 0 ∧ Y % Nat.gcd X Y = 0 ∧ Nat.gcd (X / Nat.gcd X Y) (Y / Nat.gcd X Y) = 1 := by
  have h0 : 0 < Nat.gcd X Y := Nat.gcd_pos_of_pos_left _ (by omega)
  exact ⟨by omega, Nat.mod_eq_zero_of_dvd (Nat.gcd_dvd_left X Y), Nat.mod_eq_zero_of_dvd (Nat.gcd_dvd_right X Y), by rw [Nat.gcd_div (Nat.gcd_dvd_left X Y) (Nat.gcd_dvd_right X Y), Nat.div_self h0]⟩
set_option maxRecDepth 100000 in
set_option maxHeartbeats 2000000 in
theorem gcds_any (x y : ByteArray) (w : World) (htab : Tab w) :
    Calls Tryd.prog 5 #[.string x, .string y] w fun e w' => e = .returned (.bool true) ∧ Below w.heap.size w w' := by
  have hb0 : Below w.heap.size w (w.alloc (Obj.cells #[.string x, .string y] 9)) := (Below.refl _ _).alloc (Nat.le_refl _) _
  go_enter Tryd.func5, Tryd.ntmps5
  go_wp2_with fail
  refine (long_any _ w.heap.size 2 [x, y] (by omega) ?_).mono ?_
  · intro k hk
    match k, hk with
    | 0, _ => simp [go_sem, sg]
    | 1, _ => simp [go_sem, sg]
  rintro e w1 ⟨h | ⟨h, hsz⟩, rfl⟩
  · rw [h]
    go_wp2
    go_ret
    exact ⟨rfl, hb0⟩
  rw [h]
  have hx := hsz 0 (by omega)
  have hy := hsz 1 (by omega)
  simp only [sg, List.getD_cons_zero, List.getD_cons_succ] at hx hy
  clear hsz h
  generalize w.alloc (Obj.cells #[.string x, .string y] 9) = w1 at *
  go_wp2_with fail
  refine (number_any x _ (by omega)).mono ?_
  rintro e u1 ⟨⟨aa, la, ca, ar1, lr1, cr1, b1, rfl, f1⟩, hb1⟩
  have F1 := hid f1
  clear f1
  go_wp2_with fail
  refine (number_any y _ (by omega)).mono ?_
  rintro e u2 ⟨⟨ab, lb, cb, ar2, lr2, cr2, b2, rfl, f2⟩, hb2⟩
  have F2 := hid f2
  clear f2
  have c1 := boxed2 hb1 (Obj.cells #[Value.slice aa la ca] 26) (Obj.cells #[Value.slice ar1 lr1 cr1] 29)
  have c2 := boxed2 hb2 (Obj.cells #[Value.slice ab lb cb] 26) (Obj.cells #[Value.slice ar2 lr2 cr2] 29)
  have d1 := boxed2 (Below.refl u1.heap.size u1) (Obj.cells #[Value.slice aa la ca] 26) (Obj.cells #[Value.slice ar1 lr1 cr1] 29)
  have d2 := boxed2 (Below.refl u2.heap.size u2) (Obj.cells #[Value.slice ab lb cb] 26) (Obj.cells #[Value.slice ar2 lr2 cr2] 29)
  have p1 := boxed2_first u1 (Obj.cells #[Value.slice aa la ca] 26) (Obj.cells #[Value.slice ar1 lr1 cr1] 29)
  have p2 := boxed2_first u2 (Obj.cells #[Value.slice ab lb cb] 26) (Obj.cells #[Value.slice ar2 lr2 cr2] 29)
  have l0 : w.heap.size ≤ u1.heap.size := by have := hb0.size; have := hb1.size; omega
  clear hb1
  generalize (u1.alloc (Obj.cells #[Value.slice aa la ca] 26)).alloc (Obj.cells #[Value.slice ar1 lr1 cr1] 29) = W1 at *
  have g1 := chain2 (chain2 hb0 c1) c2
  have q1 := box_below c2 p1 (lt_of_block p1)
  have hall : b1 = true ∧ b2 = true ∨ b1 = false ∨ b2 = false := by
    cases b1 <;> cases b2 <;> simp
  rcases hall with ⟨rfl, rfl⟩ | hall
  · obtain ⟨tx, na1, _⟩ := F1.out rfl
    obtain ⟨ty, nb1, _⟩ := F2.out rfl
    have na2 := (na1.below d1).below c2
    have nb2 := nb1.below d2
    have tab2 := htab.below g1
    have s1 := box_below hb2 p1 (lt_of_block p1)
    have l1 := lt_of_block s1
    have r1 := cell_of_one s1
    have HT := hid (And.intro tx ty)
    clear F1 F2 c1 c2 d1 d2 hb2 s1 tx ty na1 nb1 p1
    go_wp2_with fail
    generalize (u2.alloc (Obj.cells #[Value.slice ab lb cb] 26)).alloc (Obj.cells #[Value.slice ar2 lr2 cr2] 29) = W2 at *
    have k1 := cell_of_one q1
    have k2 := cell_of_one p2
    have HK : x.size / 9 + 1 ≤ 200 ∧ y.size / 9 + 1 ≤ 200 := by omega
    have na := na2.mono HK.1
    have nb := nb2.mono HK.2
    refine (gcd_any _ _ _ _ _ 200 (by omega) na nb).mono ?_
    rintro e w3 ⟨vg, rfl, ng, hb3⟩
    obtain ⟨ag, lg', cg, rfl⟩ := ng.form
    have C3 := below_alloc' (chain2 g1 hb3) (Nat.le_refl _) (Obj.cells #[Value.slice ag lg' cg] 26)
    have X3 := below_alloc' hb3 (Nat.le_refl _) (Obj.cells #[Value.slice ag lg' cg] 26)
    have t3 := box_new w3 (Obj.cells #[Value.slice ag lg' cg] 26)
    have t1 := box_below X3 q1 (lt_of_block q1)
    have t2 := box_below X3 p2 (lt_of_block p2)
    have na := na.below X3
    have nb := nb.below X3
    have ng := ng.below ((Below.refl _ _).alloc (Nat.le_refl _) (Obj.cells #[Value.slice ag lg' cg] 26))
    clear k1 k2 X3 na2 nb2 g1 hb3 p2 q1
    have k1 := cell_of_one t1
    have k2 := cell_of_one t2
    have k3 := cell_of_one t3
    by_cases h0 : num x = 0 ∨ num y = 0
    · have HG : Hid (cmpI (Nat.gcd (num x) (num y)) (num x + num y) = 0) := by
        refine cmpI_eq ?_
        rcases h0 with h | h <;> rw [h] <;> simp
      have hs : x = ⟨#[48]⟩ ∨ (x.toList == [48]) = false ∧ y = ⟨#[48]⟩ := by
        by_cases hx0 : num x = 0
        · exact Or.inl (zero_text HT.out.1 hx0)
        · exact Or.inr ⟨not_zero hx0, zero_text HT.out.2 (by omega)⟩
      generalize num x = X at *
      generalize num y = Y at *
      generalize Nat.gcd X Y = G at *
      clear h0
      rcases hs with hs | ⟨hs, hs'⟩
      case' inl => subst hs
      case' inr => subst hs'
      all_goals
        go_wp2_with fail
        generalize w3.alloc (Obj.cells #[Value.slice ag lg' cg] 26) = W3 at *
        have B0 : Below W3.heap.size W3 W3.drew := (Below.refl _ _).drew
        go_region_held3 (fun w' => w'.cell? ⟨u1.heap.size, 0, none⟩ = some (.slice aa la ca) ∧ w'.cell? ⟨u2.heap.size, 0, none⟩ = some (.slice ab lb cb) ∧ w'.cell? ⟨w3.heap.size, 0, none⟩ = some (.slice ag lg' cg)) ((refine keep3 k1 k2 k3 ?_; first | exact B0 | exact B1 | exact B2)) (first
          | (have gk := B1; go_at_call 16; refine (cmp_any _ _ _ _ _ _ _ (ng.below B1) n1).mono ?_; rintro e w5 ⟨rfl, hb5⟩; have B2 := chain2 B1 hb5; rw [HG.out])
          | (have gk := B0; go_at_call 21; refine (add_any _ _ _ _ _ _ _ (by omega) (by omega) (na.below B0) (nb.below B0)).mono ?_; rintro e w4 ⟨v1, rfl, n1, hb4⟩; have B1 := chain2 B0 hb4))
        have CE := chain2 C3 B2
        go_wp2
        go_ret
        exact ⟨rfl, CE⟩
    · have hx0 := not_zero (show ¬ num x = 0 by omega)
      have hy0 := not_zero (show ¬ num y = 0 by omega)
      obtain ⟨h1, h2, h3, h4⟩ := gcd_parts (Y := num y) (show num x ≠ 0 by omega)
      go_wp2_with fail
      generalize w3.alloc (Obj.cells #[Value.slice ag lg' cg] 26) = W3 at *
      clear k1 k2 k3
      refine (divmod_any _ _ _ _ _ _ _ (by omega) (by omega) na ng h1).mono ?_
      rintro e w4 ⟨⟨vp, vm, rfl, np, nm⟩, hb4⟩
      obtain ⟨ap, lp, cp, rfl⟩ := np.form
      obtain ⟨am, lm, cm, rfl⟩ := nm.form
      have X4 := boxed2 hb4 (Obj.cells #[Value.slice ap lp cp] 26) (Obj.cells #[Value.slice am lm cm] 26)
      have Y4 := boxed2 (Below.refl w4.heap.size w4) (Obj.cells #[Value.slice ap lp cp] 26) (Obj.cells #[Value.slice am lm cm] 26)
      have t4 := boxed2_first w4 (Obj.cells #[Value.slice ap lp cp] 26) (Obj.cells #[Value.slice am lm cm] 26)
      have t5 := boxed2_second w4 (Obj.cells #[Value.slice ap lp cp] 26) (Obj.cells #[Value.slice am lm cm] 26)
      have C4 := chain2 C3 X4
      have t2 := box_below X4 t2 (lt_of_block t2)
      have t3 := box_below X4 t3 (lt_of_block t3)
      have nb := nb.below X4
      have ng := ng.below X4
      have np := np.below Y4
      have nm := nm.below Y4
      have k2 := cell_of_one t2
      have k3 := cell_of_one t3
      clear X4 Y4 hb4 C3 na
      go_wp2_with fail
      generalize (w4.alloc (Obj.cells #[Value.slice ap lp cp] 26)).alloc (Obj.cells #[Value.slice am lm cm] 26) = W4 at *
      clear k2 k3
      refine (divmod_any _ _ _ _ _ _ _ (by omega) (by omega) nb ng h1).mono ?_
      rintro e w5 ⟨⟨vq, vn, rfl, nq, nn⟩, hb5⟩
      obtain ⟨aq, lq, cq, rfl⟩ := nq.form
      obtain ⟨an, ln, cn, rfl⟩ := nn.form
      have X5 := boxed2 hb5 (Obj.cells #[Value.slice aq lq cq] 26) (Obj.cells #[Value.slice an ln cn] 26)
      have Y5 := boxed2 (Below.refl w5.heap.size w5) (Obj.cells #[Value.slice aq lq cq] 26) (Obj.cells #[Value.slice an ln cn] 26)
      have t6 := boxed2_first w5 (Obj.cells #[Value.slice aq lq cq] 26) (Obj.cells #[Value.slice an ln cn] 26)
      have t7 := boxed2_second w5 (Obj.cells #[Value.slice aq lq cq] 26) (Obj.cells #[Value.slice an ln cn] 26)
      have C5 := chain2 C4 X5
      have t4 := box_below X5 t4 (lt_of_block t4)
      have t5 := box_below X5 t5 (lt_of_block t5)
      have np := (np.below X5).mono (show _ ≤ 200 by omega)
      have nm := nm.below X5
      have nq := (nq.below Y5).mono (show _ ≤ 200 by omega)
      have nn := nn.below Y5
      have k4 := cell_of_one t4
      have k5 := cell_of_one t5
      have k6 := cell_of_one t6
      have k7 := cell_of_one t7
      rw [h2] at nm
      rw [h3] at nn
      have HE := hid h4
      have tab5 := htab.below C5
      clear X5 Y5 hb5 C4 nb ng h1 h2 h3 h4 t2 t3 t4 t5 t6 t7
      generalize num x / Nat.gcd (num x) (num y) = P at *
      generalize num y / Nat.gcd (num x) (num y) = Q at *
      go_wp2_with fail
      generalize (w5.alloc (Obj.cells #[Value.slice aq lq cq] 26)).alloc (Obj.cells #[Value.slice an ln cn] 26) = W5 at *
      refine (text_any _ _ _ _ (by omega) nm tab5).mono ?_
      rintro e w6 ⟨⟨s1, rfl, z1, e1⟩, B1⟩
      rw [zero_text z1 e1]
      have K1 := keep4 k4 k5 k6 k7 B1
      clear k4 k5 k6 k7
      obtain ⟨k4, k5, k6, k7⟩ := K1
      go_wp2_with fail
      refine (text_any _ _ _ _ (by omega) (nn.below B1) (tab5.below B1)).mono ?_
      rintro e w7 ⟨⟨s2, rfl, z2, e2⟩, hb7⟩
      rw [zero_text z2 e2]
      have B2 := chain2 B1 hb7
      have K1 := keep4 k4 k5 k6 k7 hb7
      clear k4 k5 k6 k7
      obtain ⟨k4, k5, k6, k7⟩ := K1
      go_wp2_with fail
      refine (gcd_any _ _ _ _ _ 200 (by omega) (np.below B2) (nq.below B2)).mono ?_
      rintro e w8 ⟨v3, rfl, n3, hb8⟩
      have B3 := chain2 B2 hb8
      go_wp2_with fail
      refine (text_any _ _ _ 200 (by omega) n3 (tab5.below B3)).mono ?_
      rintro e w9 ⟨⟨s3, rfl, z3, e3⟩, hb9⟩
      have B4 := chain2 B3 hb9
      rw [one_text z3 (e3.trans HE.out)]
      have CE := chain2 C5 B4
      go_wp2
      go_ret
      exact ⟨rfl, CE⟩
  · clear F1 F2 c1 c2 d1 d2 hb2 p1 p2 q1
    rcases hall with rfl | rfl
    all_goals first | cases b1 | cases b2 | skip
    all_goals go_wp2
    all_goals go_ret
    all_goals exact ⟨rfl, g1⟩
end Go.Proofs.YtciecncdejlkkaaDoor
