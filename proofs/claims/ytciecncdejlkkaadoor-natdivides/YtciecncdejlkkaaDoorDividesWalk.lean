/- NatDivides: what the call answers. -/
import Derived.Test.YtciecncdejlkkaaDoorNumber
import Derived.Test.YtciecncdejlkkaaDoorLaws
import Derived.Test.YtciecncdejlkkaaDoorEnds
import Derived.Test.YtciecncdejlkkaaDoorText
import Derived.Test.YtciecncdejlkkaaDoorRText
import Derived.Test.YtciecncdejlkkaaDoorREnds
import Derived.Test.YtciecncdejlkkaaDoorGcd
import Derived.Test.YtciecncdejlkkaaDoorRBits
namespace Go.Proofs.YtciecncdejlkkaaDoor
open Go.RowKit
set_option linter.unusedVariables false
set_option maxRecDepth 100000
set_option linter.unusedSimpArgs false
attribute [local go_sem ↓] Go.wp_at_zero Go.wp_at_succ

def divE (n : Nat) : Int := if n = 0 then 12 else 0
def restD (m n : Nat) : Nat := if n = 0 then 0 else m % n
/-- DivMod, by 0 or not. -/
theorem divmod_both (w : World) (a b : Value) (m n K K' : Nat) (hK : K ≤ 1000000000) (hK' : K' ≤ 1000000000) (ha : NatIs w a m K) (hb : NatIs w b n K') :
    Calls Tryd.prog 10 #[a, b] w fun e w' => ∃ ao l c bo l' c', e = .returned (.tuple #[.agg #[.slice ao l c], .agg #[.slice bo l' c'], .int .i64 (divE n)]) ∧ NatIs w' (.agg #[.slice ao l c]) (m / n) K ∧ NatIs w' (.agg #[.slice bo l' c']) (restD m n) K' ∧ Below w.heap.size w w' := by
  by_cases h : n = 0
  · subst h
    refine (divmod_none w a b m K K' ha hb).mono ?_
    rintro e w' ⟨rfl, hw⟩
    exact ⟨none, 0, 0, none, 0, 0, rfl, by rw [Nat.div_zero]; exact (nat_zero w').mono (by omega), (nat_zero w').mono (by omega), hw⟩
  · refine (divmod_any w a b m n K K' hK hK' ha hb h).mono ?_
    rintro e w' ⟨⟨q, r, rfl, h1, h2⟩, hw⟩
    obtain ⟨ao, l, c, rfl⟩ := h1.form
    obtain ⟨bo, l', c', rfl⟩ := h2.form
    exact ⟨ao, l, c, bo, l', c', by simp [divE, h], h1, by simpa [restD, h] using h2, hw⟩
theorem rdivmod_both (w : World) (a b : Value) (m n K K' : Nat) (hK : K ≤ 400000000) (hK' : K' ≤ 400000000) (ha : RefIs w a m K) (hb : RefIs w b n K') :
    Calls Tryd.prog 11 #[a, b] w fun e w' => ∃ ao l c bo l' c', e = .returned (.tuple #[.agg #[.slice ao l c], .agg #[.slice bo l' c'], .int .i64 (divE n)]) ∧ RefIs w' (.agg #[.slice ao l c]) (m / n) K ∧ RefIs w' (.agg #[.slice bo l' c']) (restD m n) K' ∧ Below w.heap.size w w' := by
  by_cases h : n = 0
  · subst h
    refine (rdivmod_none w a b m K K' ha hb).mono ?_
    rintro e w' ⟨rfl, hw⟩
    exact ⟨none, 0, 0, none, 0, 0, rfl, by rw [Nat.div_zero]; exact (ref_zero w').mono (by omega), (ref_zero w').mono (by omega), hw⟩
  · refine (rdivmod_any w a b m n K K' hK hK' ha hb h).mono ?_
    rintro e w' ⟨⟨q, r, rfl, h1, h2⟩, hw⟩
    obtain ⟨ao, l, c, rfl⟩ := h1.form
    obtain ⟨bo, l', c', rfl⟩ := h2.form
    exact ⟨ao, l, c, bo, l', c', by simp [divE, h], h1, by simpa [restD, h] using h2, hw⟩
theorem keep8 {W X : World} {p q r s t u v x : Nat} {a b c d e f g h : Value} (hp : W.cell? ⟨p, 0, none⟩ = some a) (hq : W.cell? ⟨q, 0, none⟩ = some b) (hr : W.cell? ⟨r, 0, none⟩ = some c) (hs : W.cell? ⟨s, 0, none⟩ = some d) (ht : W.cell? ⟨t, 0, none⟩ = some e) (hu : W.cell? ⟨u, 0, none⟩ = some f) (hv : W.cell? ⟨v, 0, none⟩ = some g) (hx : W.cell? ⟨x, 0, none⟩ = some h) (hh : Below W.heap.size W X) :
    X.cell? ⟨p, 0, none⟩ = some a ∧ X.cell? ⟨q, 0, none⟩ = some b ∧ X.cell? ⟨r, 0, none⟩ = some c ∧ X.cell? ⟨s, 0, none⟩ = some d ∧ X.cell? ⟨t, 0, none⟩ = some e ∧ X.cell? ⟨u, 0, none⟩ = some f ∧ X.cell? ⟨v, 0, none⟩ = some g ∧ X.cell? ⟨x, 0, none⟩ = some h := ⟨kc hh hp, kc hh hq, kc hh hr, kc hh hs, kc hh ht, kc hh hu, kc hh hv, kc hh hx⟩
theorem pow_nine (n : Nat) : 1000000000 ^ n ≤ 2 ^ (30 * n) := by
  rw [Nat.pow_mul]; exact Nat.pow_le_pow_left (by decide) n
theorem bits_small {X b K : Nat} (h : Bin X b) (hX : X < 1000000000 ^ K) : b ≤ 30 * K := bin_le h (Nat.lt_of_lt_of_le hX (pow_nine K))
set_option maxRecDepth 100000 in
set_option maxHeartbeats 8000000 in
theorem divides_any (x y : ByteArray) (w : World) (htab : Tab w) :
    Calls Tryd.prog 3 #[.string x, .string y] w fun e w' => e = .returned (.bool true) ∧ Below w.heap.size w w' := by
  have hb0 : Below w.heap.size w (w.alloc (Obj.cells #[.string x, .string y] 9)) := (Below.refl _ _).alloc (Nat.le_refl _) _
  go_enter Tryd.func3, Tryd.ntmps3
  go_wp2_with fail
  refine (long_any _ w.heap.size 2 [x, y] (by omega) ?_).mono ?_
  · intro k hk
    match k, hk with
    | 0, _ => simp [go_sem, sg]
    | 1, _ => simp [go_sem, sg]
  rintro e w1 ⟨h | ⟨h, hsz⟩, rfl⟩
  · rw [h]
    go_wp2
    go_ret
    exact ⟨rfl, hb0⟩
  rw [h]
  have hx := hsz 0 (by omega)
  have hy := hsz 1 (by omega)
  simp only [sg, List.getD_cons_zero, List.getD_cons_succ] at hx hy
  clear hsz h
  generalize w.alloc (Obj.cells #[.string x, .string y] 9) = w1 at *
  go_wp2_with fail
  refine (number_any x _ (by omega)).mono ?_
  rintro e u1 ⟨⟨aa, la, ca, ar1, lr1, cr1, b1, rfl, f1⟩, hb1⟩
  have F1 := hid f1
  clear f1
  go_wp2_with fail
  refine (number_any y _ (by omega)).mono ?_
  rintro e u2 ⟨⟨ab, lb, cb, ar2, lr2, cr2, b2, rfl, f2⟩, hb2⟩
  have F2 := hid f2
  clear f2
  have c1 := boxed2 hb1 (Obj.cells #[Value.slice aa la ca] 26) (Obj.cells #[Value.slice ar1 lr1 cr1] 29)
  have c2 := boxed2 hb2 (Obj.cells #[Value.slice ab lb cb] 26) (Obj.cells #[Value.slice ar2 lr2 cr2] 29)
  have d1 := boxed2 (Below.refl u1.heap.size u1) (Obj.cells #[Value.slice aa la ca] 26) (Obj.cells #[Value.slice ar1 lr1 cr1] 29)
  have d2 := boxed2 (Below.refl u2.heap.size u2) (Obj.cells #[Value.slice ab lb cb] 26) (Obj.cells #[Value.slice ar2 lr2 cr2] 29)
  have p1 := boxed2_first u1 (Obj.cells #[Value.slice aa la ca] 26) (Obj.cells #[Value.slice ar1 lr1 cr1] 29)
  have p3 := boxed2_second u1 (Obj.cells #[Value.slice aa la ca] 26) (Obj.cells #[Value.slice ar1 lr1 cr1] 29)
  have p4 := boxed2_second u2 (Obj.cells #[Value.slice ab lb cb] 26) (Obj.cells #[Value.slice ar2 lr2 cr2] 29)
  have p2 := boxed2_first u2 (Obj.cells #[Value.slice ab lb cb] 26) (Obj.cells #[Value.slice ar2 lr2 cr2] 29)
  have l0 : w.heap.size ≤ u1.heap.size := by have := hb0.size; have := hb1.size; omega
  clear hb1
  generalize (u1.alloc (Obj.cells #[Value.slice aa la ca] 26)).alloc (Obj.cells #[Value.slice ar1 lr1 cr1] 29) = W1 at *
  have g1 := chain2 (chain2 hb0 c1) c2
  have q1 := box_below c2 p1 (lt_of_block p1)
  have q3 := box_below c2 p3 (lt_of_block p3)
  have hall : b1 = true ∧ b2 = true ∨ b1 = false ∨ b2 = false := by
    cases b1 <;> cases b2 <;> simp
  rcases hall with ⟨rfl, rfl⟩ | hall
  · obtain ⟨tx, na1, ra1⟩ := F1.out rfl
    obtain ⟨ty, nb1, rb1⟩ := F2.out rfl
    have na2 := (na1.below d1).below c2
    have nb2 := nb1.below d2
    have na := ((na1.below d1).below c2).mono (show _ ≤ 30 by omega)
    have nb := (nb1.below d2).mono (show _ ≤ 30 by omega)
    have nr := ((ra1.below d1).below c2).mono (show _ ≤ 30 by omega)
    have ns := (rb1.below d2).mono (show _ ≤ 30 by omega)
    have TX := hid tx
    have TY := hid ty
    have s1 := box_below hb2 p1 (lt_of_block p1)
    have r1 := cell_of_one s1
    have t1 := cell_of_one q1
    have t2 := cell_of_one p2
    clear F1 F2 c1 c2 d1 d2 hb2 s1 tx ty na1 nb1 ra1 rb1 p1 p3
    try clear na2 nb2
    go_wp2_with fail
    clear t1 t2 r1
    generalize (u2.alloc (Obj.cells #[Value.slice ab lb cb] 26)).alloc (Obj.cells #[Value.slice ar2 lr2 cr2] 29) = W2 at *
    generalize hX : num x = X at *
    generalize hY : num y = Y at *
    have HX := hid hX
    have HY := hid hY
    clear hX hY
    refine (divmod_both _ _ _ _ _ _ _ (by omega) (by omega) na nb).mono ?_
    rintro e w3 ⟨aq, lq, cq, am, lm, cm, rfl, nq, nm, hb3⟩
    have c3 := boxed2 (chain2 g1 hb3) (Obj.cells #[Value.slice aq lq cq] 26) (Obj.cells #[Value.slice am lm cm] 26)
    have hx3 := boxed2 hb3 (Obj.cells #[Value.slice aq lq cq] 26) (Obj.cells #[Value.slice am lm cm] 26)
    have hy3 := boxed2 (Below.refl w3.heap.size w3) (Obj.cells #[Value.slice aq lq cq] 26) (Obj.cells #[Value.slice am lm cm] 26)
    have i1 := box_below hx3 q1 (lt_of_block q1)
    have i2 := box_below hx3 p2 (lt_of_block p2)
    have i3 := box_below hx3 q3 (lt_of_block q3)
    have i4 := box_below hx3 p4 (lt_of_block p4)
    have i5 := boxed2_first w3 (Obj.cells #[Value.slice aq lq cq] 26) (Obj.cells #[Value.slice am lm cm] 26)
    have i6 := boxed2_second w3 (Obj.cells #[Value.slice aq lq cq] 26) (Obj.cells #[Value.slice am lm cm] 26)
    have na := na.below hx3
    have nb := nb.below hx3
    have nr := nr.below hx3
    have ns := ns.below hx3
    have nq := nq.below hy3
    have nm := nm.below hy3
    clear g1 hx3 hy3 q1 p2 q3 p4 hb3
    have t3 := cell_of_one i3
    have t4 := cell_of_one i4
    obtain ⟨E, hE⟩ : ∃ E, divE Y = E := ⟨_, rfl⟩
    rw [hE]
    have HE := hid hE
    clear hE
    go_wp2_with fail
    clear t3 t4
    generalize (w3.alloc (Obj.cells #[Value.slice aq lq cq] 26)).alloc (Obj.cells #[Value.slice am lm cm] 26) = W3 at *
    refine (rdivmod_both _ _ _ _ _ _ _ (by omega) (by omega) nr ns).mono ?_
    rintro e w4 ⟨ap, lp, cp, av, lv, cv, rfl, np, nv, hb4⟩
    rw [HE.out]
    have c4 := boxed2 (chain2 c3 hb4) (Obj.cells #[Value.slice ap lp cp] 29) (Obj.cells #[Value.slice av lv cv] 29)
    have hx4 := boxed2 hb4 (Obj.cells #[Value.slice ap lp cp] 29) (Obj.cells #[Value.slice av lv cv] 29)
    have hy4 := boxed2 (Below.refl w4.heap.size w4) (Obj.cells #[Value.slice ap lp cp] 29) (Obj.cells #[Value.slice av lv cv] 29)
    have t1 := cell_of_one (box_below hx4 i1 (lt_of_block i1))
    have t2 := cell_of_one (box_below hx4 i2 (lt_of_block i2))
    have t3 := cell_of_one (box_below hx4 i3 (lt_of_block i3))
    have t4 := cell_of_one (box_below hx4 i4 (lt_of_block i4))
    have t5 := cell_of_one (box_below hx4 i5 (lt_of_block i5))
    have t6 := cell_of_one (box_below hx4 i6 (lt_of_block i6))
    have t7 := cell_of_one (boxed2_first w4 (Obj.cells #[Value.slice ap lp cp] 29) (Obj.cells #[Value.slice av lv cv] 29))
    have t8 := cell_of_one (boxed2_second w4 (Obj.cells #[Value.slice ap lp cp] 29) (Obj.cells #[Value.slice av lv cv] 29))
    have na := na.below hx4
    have nb := nb.below hx4
    have nr := nr.below hx4
    have ns := ns.below hx4
    have nq := nq.below hx4
    have nm := nm.below hx4
    have np := np.below hy4
    have nv := nv.below hy4
    clear c3 hb4 hx4 hy4 i1 i2 i3 i4 i5 i6
    have tabE := htab.below c4
    obtain ⟨bt, hbt⟩ : ∃ bt, Bin X bt := ⟨_, bin_ex X⟩
    have hbs := bits_small hbt nr.lt
    have HBT := hid hbt
    clear hbt HX HY
    generalize X / Y = QQ at *
    generalize restD X Y = RR at *
    go_wp2
    generalize (w4.alloc (Obj.cells #[Value.slice ap lp cp] 29)).alloc (Obj.cells #[Value.slice av lv cv] 29) = X0 at *
    have B0 : Below X0.heap.size X0 X0.drew := (Below.refl _ _).drew
    try simp only [List.append_eq, List.cons_append, List.nil_append]
    go_region_held3 (fun w' => w'.cell? ⟨u1.heap.size, 0, none⟩ = some (.slice aa la ca) ∧ w'.cell? ⟨u2.heap.size, 0, none⟩ = some (.slice ab lb cb) ∧ w'.cell? ⟨u1.heap.size + 1, 0, none⟩ = some (.slice ar1 lr1 cr1) ∧ w'.cell? ⟨u2.heap.size + 1, 0, none⟩ = some (.slice ar2 lr2 cr2) ∧ w'.cell? ⟨w3.heap.size, 0, none⟩ = some (.slice aq lq cq) ∧ w'.cell? ⟨w3.heap.size + 1, 0, none⟩ = some (.slice am lm cm) ∧ w'.cell? ⟨w4.heap.size, 0, none⟩ = some (.slice ap lp cp) ∧ w'.cell? ⟨w4.heap.size + 1, 0, none⟩ = some (.slice av lv cv)) ((refine keep8 t1 t2 t3 t4 t5 t6 t7 t8 ?_; first | exact B0 | exact B1 | exact B2 | exact B3 | exact B4 | exact B5 | exact B6 | exact B7 | exact B8 | exact B9 | exact B10 | exact B11 | exact B12)) (first
      | (have gk := B11; go_at_call 19; refine (rbits_any _ _ X 30 bt (by omega) (by omega) (nr.below B11) HBT.out).mono ?_; rintro e w112 ⟨rfl, hb112⟩; have B12 := chain2 B11 hb112)
      | (have gk := B10; go_at_call 18; refine (bits_any _ _ X 30 bt (by omega) (na.below B10) HBT.out).mono ?_; rintro e w111 ⟨rfl, hb111⟩; have B11 := chain2 B10 hb111)
      | (have gk := B9; go_at_call 17; refine (rcmp_any _ _ _ _ _ _ _ (by omega) (by omega) (nr.below B9) (ns.below B9)).mono ?_; rintro e w110 ⟨rfl, hb110⟩; have B10 := chain2 B9 hb110)
      | (have gk := B8; go_at_call 16; refine (cmp_any _ _ _ _ _ _ _ (na.below B8) (nb.below B8)).mono ?_; rintro e w109 ⟨rfl, hb109⟩; have B9 := chain2 B8 hb109)
      | (have gk := B7; go_at_call 13; refine (rtext_any _ _ _ 30 (by omega) n107).mono ?_; rintro e w108 ⟨⟨s108, rfl, h108, e108⟩, hb108⟩; have B8 := chain2 B7 hb108; rw [num_inj h108 h106 (e108.trans e106.symm)])
      | (have gk := B6; go_at_call 15; refine (rgcd_any _ _ _ _ _ 30 (by omega) (nr.below B6) (ns.below B6)).mono ?_; rintro e w107 ⟨v107, rfl, n107, hb107⟩; have B7 := chain2 B6 hb107)
      | (have gk := B5; go_at_call 12; refine (text_any _ _ _ 30 (by omega) n105 (tabE.below B5)).mono ?_; rintro e w106 ⟨⟨s106, rfl, h106, e106⟩, hb106⟩; have B6 := chain2 B5 hb106)
      | (have gk := B4; go_at_call 14; refine (gcd_any _ _ _ _ _ 30 (by omega) (na.below B4) (nb.below B4)).mono ?_; rintro e w105 ⟨v105, rfl, n105, hb105⟩; have B5 := chain2 B4 hb105)
      | (have gk := B3; go_at_call 13; refine (rtext_any _ _ _ 30 (by omega) (nv.below B3)).mono ?_; rintro e w104 ⟨⟨s104, rfl, h104, e104⟩, hb104⟩; have B4 := chain2 B3 hb104; rw [num_inj h104 h103 (e104.trans e103.symm)])
      | (have gk := B2; go_at_call 12; refine (text_any _ _ _ 30 (by omega) (nm.below B2) (tabE.below B2)).mono ?_; rintro e w103 ⟨⟨s103, rfl, h103, e103⟩, hb103⟩; have B3 := chain2 B2 hb103)
      | (have gk := B1; go_at_call 13; refine (rtext_any _ _ _ 30 (by omega) (np.below B1)).mono ?_; rintro e w102 ⟨⟨s102, rfl, h102, e102⟩, hb102⟩; have B2 := chain2 B1 hb102; rw [num_inj h102 h101 (e102.trans e101.symm)])
      | (have gk := B0; go_at_call 12; refine (text_any _ _ _ 30 (by omega) (nq.below B0) (tabE.below B0)).mono ?_; rintro e w101 ⟨⟨s101, rfl, h101, e101⟩, hb101⟩; have B1 := chain2 B0 hb101))
    all_goals
      have c9 := chain2 c4 B12
      go_wp2
      go_ret
      exact ⟨rfl, c9⟩
  · have hb : b1 = false ∨ b1 = true ∧ b2 = false := by
      cases b1 <;> cases b2 <;> simp at hall ⊢
    clear hall F1 F2 c1 c2 d1 d2 hb2 p1 p2 q1 p3 p4 q3
    rcases hb with rfl | ⟨rfl, rfl⟩
    all_goals
      go_wp2
      go_ret
      exact ⟨rfl, g1⟩
end Go.Proofs.YtciecncdejlkkaaDoor
