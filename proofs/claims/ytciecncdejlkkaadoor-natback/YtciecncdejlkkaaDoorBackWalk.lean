/- NatBack: what the call answers. -/
import Derived.Test.YtciecncdejlkkaaDoorNumber
import Derived.Test.YtciecncdejlkkaaDoorLaws
import Derived.Test.YtciecncdejlkkaaDoorEnds
import Derived.Test.YtciecncdejlkkaaDoorMul
import Derived.Test.YtciecncdejlkkaaDoorText
import Derived.Test.YtciecncdejlkkaaDoorGcd
namespace Go.Proofs.YtciecncdejlkkaaDoor
open Go.RowKit
set_option linter.unusedVariables false
set_option maxRecDepth 100000
set_option linter.unusedSimpArgs false
attribute [local go_sem ↓] Go.wp_at_zero Go.wp_at_succ

theorem zero_text {s : ByteArray} (h : Txt s) (e : num s = 0) : s = ⟨#[48]⟩ := by
  have ht : Txt ⟨#[48]⟩ := by
    refine ⟨by decide, by decide, fun k hk => ?_⟩
    obtain rfl : k = 0 := by have : (⟨#[48]⟩ : ByteArray).size = 1 := rfl; omega
    decide
  exact num_inj h ht (by rw [e]; decide)
theorem not_zero {y : ByteArray} (h : ¬ num y = 0) : (y.toList == [48]) = false := by
  refine beq_eq_false_iff_ne.2 fun e => h ?_
  rw [Lib.toList_data] at e
  have : y = ⟨#[48]⟩ := by
    cases y with
    | mk d => exact congrArg ByteArray.mk (Array.toList_inj.1 (by simpa using e))
  rw [this]; decide
set_option maxRecDepth 100000 in
set_option maxHeartbeats 2000000 in
theorem back_any (x y : ByteArray) (w : World) (htab : Tab w) :
    Calls Tryd.prog 4 #[.string x, .string y] w fun e w' => e = .returned (.bool true) ∧ Below w.heap.size w w' := by
  have hb0 : Below w.heap.size w (w.alloc (Obj.cells #[.string x, .string y] 9)) := (Below.refl _ _).alloc (Nat.le_refl _) _
  go_enter Tryd.func4, Tryd.ntmps4
  go_wp2_with fail
  refine (long_any _ w.heap.size 2 [x, y] (by omega) ?_).mono ?_
  · intro k hk
    match k, hk with
    | 0, _ => simp [go_sem, sg]
    | 1, _ => simp [go_sem, sg]
  rintro e w1 ⟨h | ⟨h, hsz⟩, rfl⟩
  · rw [h]
    go_wp2
    go_ret
    exact ⟨rfl, hb0⟩
  rw [h]
  have hx := hsz 0 (by omega)
  have hy := hsz 1 (by omega)
  simp only [sg, List.getD_cons_zero, List.getD_cons_succ] at hx hy
  clear hsz h
  generalize w.alloc (Obj.cells #[.string x, .string y] 9) = w1 at *
  go_wp2_with fail
  refine (number_any x _ (by omega)).mono ?_
  rintro e u1 ⟨⟨aa, la, ca, ar1, lr1, cr1, b1, rfl, f1⟩, hb1⟩
  have F1 := hid f1
  clear f1
  go_wp2_with fail
  refine (number_any y _ (by omega)).mono ?_
  rintro e u2 ⟨⟨ab, lb, cb, ar2, lr2, cr2, b2, rfl, f2⟩, hb2⟩
  have F2 := hid f2
  clear f2
  have c1 := boxed2 hb1 (Obj.cells #[Value.slice aa la ca] 26) (Obj.cells #[Value.slice ar1 lr1 cr1] 29)
  have c2 := boxed2 hb2 (Obj.cells #[Value.slice ab lb cb] 26) (Obj.cells #[Value.slice ar2 lr2 cr2] 29)
  have d1 := boxed2 (Below.refl u1.heap.size u1) (Obj.cells #[Value.slice aa la ca] 26) (Obj.cells #[Value.slice ar1 lr1 cr1] 29)
  have d2 := boxed2 (Below.refl u2.heap.size u2) (Obj.cells #[Value.slice ab lb cb] 26) (Obj.cells #[Value.slice ar2 lr2 cr2] 29)
  have p1 := boxed2_first u1 (Obj.cells #[Value.slice aa la ca] 26) (Obj.cells #[Value.slice ar1 lr1 cr1] 29)
  have p2 := boxed2_first u2 (Obj.cells #[Value.slice ab lb cb] 26) (Obj.cells #[Value.slice ar2 lr2 cr2] 29)
  have l0 : w.heap.size ≤ u1.heap.size := by have := hb0.size; have := hb1.size; omega
  clear hb1
  generalize (u1.alloc (Obj.cells #[Value.slice aa la ca] 26)).alloc (Obj.cells #[Value.slice ar1 lr1 cr1] 29) = W1 at *
  have g1 := chain2 (chain2 hb0 c1) c2
  have q1 := box_below c2 p1 (lt_of_block p1)
  have hall : b1 = true ∧ b2 = true ∨ b1 = false ∨ b2 = false := by
    cases b1 <;> cases b2 <;> simp
  rcases hall with ⟨rfl, rfl⟩ | hall
  · obtain ⟨tx, na1, _⟩ := F1.out rfl
    obtain ⟨ty, nb1, _⟩ := F2.out rfl
    have na2 := (na1.below d1).below c2
    have nb2 := nb1.below d2
    have tab2 := htab.below g1
    have s1 := box_below hb2 p1 (lt_of_block p1)
    have l1 := lt_of_block s1
    have r1 := cell_of_one s1
    have HT := hid (And.intro tx ty)
    clear F1 F2 c1 c2 d1 d2 hb2 s1 tx ty na1 nb1 p1
    go_wp2_with fail
    generalize (u2.alloc (Obj.cells #[Value.slice ab lb cb] 26)).alloc (Obj.cells #[Value.slice ar2 lr2 cr2] 29) = W2 at *
    have k1 := cell_of_one q1
    have k2 := cell_of_one p2
    by_cases h0 : num y = 0
    · obtain hy0 := zero_text HT.out.2 h0
      rw [h0] at nb2
      subst hy0
      refine (divmod_none _ _ _ _ _ _ na2 nb2).mono ?_
      rintro e w3 ⟨rfl, hb3⟩
      have C3 := boxed2 (chain2 g1 hb3) (Obj.cells #[Value.slice none 0 0] 26) (Obj.cells #[Value.slice none 0 0] 26)
      have z1 := boxed2_first w3 (Obj.cells #[Value.slice none 0 0] 26) (Obj.cells #[Value.slice none 0 0] 26)
      have z2 := boxed2_second w3 (Obj.cells #[Value.slice none 0 0] 26) (Obj.cells #[Value.slice none 0 0] 26)
      clear h0 k1 k2
      go_wp2_with fail
      generalize (w3.alloc (Obj.cells #[Value.slice none 0 0] 26)).alloc (Obj.cells #[Value.slice none 0 0] 26) = W3 at *
      refine (text_any _ _ 0 0 (by omega) (nat_zero W3) (htab.below C3)).mono ?_
      rintro e w4 ⟨⟨s1, rfl, h1, e1⟩, hb4⟩
      rw [zero_text h1 e1]
      have C4 := chain2 C3 hb4
      have y2 := cell_of_one (box_below hb4 z2 (lt_of_block z2))
      go_wp2_with fail
      refine (text_any _ _ 0 0 (by omega) (nat_zero w4) (htab.below C4)).mono ?_
      rintro e w5 ⟨⟨s2, rfl, h2, e2⟩, hb5⟩
      rw [zero_text h2 e2]
      have C5 := chain2 C4 hb5
      go_wp2
      go_ret
      exact ⟨rfl, C5⟩
    · have hy0 : (y.toList == [48]) = false := not_zero h0
      refine (divmod_any _ _ _ _ _ _ _ (by omega) (by omega) na2 nb2 h0).mono ?_
      rintro e w3 ⟨⟨vq, vr, rfl, nq, nr⟩, hb3⟩
      obtain ⟨aq, lq, cq, rfl⟩ := nq.form
      obtain ⟨ar, lr, cr, rfl⟩ := nr.form
      have C3 := boxed2 (chain2 g1 hb3) (Obj.cells #[Value.slice aq lq cq] 26) (Obj.cells #[Value.slice ar lr cr] 26)
      have X3 := boxed2 hb3 (Obj.cells #[Value.slice aq lq cq] 26) (Obj.cells #[Value.slice ar lr cr] 26)
      have Y3 := boxed2 (Below.refl w3.heap.size w3) (Obj.cells #[Value.slice aq lq cq] 26) (Obj.cells #[Value.slice ar lr cr] 26)
      have t1 := cell_of_one (boxed2_first w3 (Obj.cells #[Value.slice aq lq cq] 26) (Obj.cells #[Value.slice ar lr cr] 26))
      have t2 := cell_of_one (boxed2_second w3 (Obj.cells #[Value.slice aq lq cq] 26) (Obj.cells #[Value.slice ar lr cr] 26))
      have t3 := cell_of_one (box_below X3 p2 (lt_of_block p2))
      have nq := nq.below Y3
      have nr := nr.below Y3
      have nb3 := nb2.below X3
      have HE := hid (show num x / num y * num y + num x % num y = num x by rw [Nat.mul_comm]; exact Nat.div_add_mod _ _)
      have HC := hid (cmpI_lt (Nat.mod_lt (num x) (show 0 < num y by omega)))
      have tab3 := htab.below C3
      clear k1 k2 X3 Y3 na2 nb2 g1 hb3 p2 q1
      go_wp2
      generalize (w3.alloc (Obj.cells #[Value.slice aq lq cq] 26)).alloc (Obj.cells #[Value.slice ar lr cr] 26) = W3 at *
      have B0 : Below W3.heap.size W3 W3.drew := (Below.refl _ _).drew
      generalize num x / num y = Q at *
      generalize num x % num y = R at *
      go_region_held3 (fun w' => w'.cell? ⟨w3.heap.size, 0, none⟩ = some (.slice aq lq cq) ∧ w'.cell? ⟨w3.heap.size + 1, 0, none⟩ = some (.slice ar lr cr) ∧ w'.cell? ⟨u2.heap.size, 0, none⟩ = some (.slice ab lb cb)) ((refine keep3 t1 t2 t3 ?_; first | exact B0 | exact B1 | exact B2 | exact B3 | exact B4)) (first
        | (have gk := B3; go_at_call 12; refine (text_any _ _ _ 500 (by omega) (n2.mono (by omega)) (tab3.below B3)).mono ?_; rintro e w7 ⟨⟨s1, rfl, h1, e1⟩, hb7⟩; have B4 := chain2 B3 hb7; rw [num_inj h1 HT.out.1 (e1.trans HE.out)])
        | (have gk := B2; go_at_call 21; refine (add_any _ _ _ _ _ _ _ (by omega) (by omega) n1 (nr.below B2)).mono ?_; rintro e w6 ⟨v2, rfl, n2, hb6⟩; have B3 := chain2 B2 hb6)
        | (have gk := B1; go_at_call 20; refine (mul_any _ _ _ _ _ _ _ (by omega) (by omega) (nq.below B1) (nb3.below B1)).mono ?_; rintro e w5 ⟨v1, rfl, n1, hb5⟩; have B2 := chain2 B1 hb5)
        | (have gk := B0; go_at_call 16; refine (cmp_any _ _ _ _ _ _ _ (nr.below B0) (nb3.below B0)).mono ?_; rintro e w4 ⟨rfl, hb4⟩; have B1 := chain2 B0 hb4; rw [HC.out]))
      have CE := chain2 C3 B4
      go_wp2
      go_ret
      exact ⟨rfl, CE⟩
  · clear F1 F2 c1 c2 d1 d2 hb2 p1 p2 q1
    rcases hall with rfl | rfl
    all_goals first | cases b1 | cases b2 | skip
    all_goals go_wp2
    all_goals go_ret
    all_goals exact ⟨rfl, g1⟩
end Go.Proofs.YtciecncdejlkkaaDoor
