/- NatOrder: what the call answers. -/
import Derived.Test.YtimchmpiaebmmaaLaws
import Derived.Test.YtimchmpiaebmmaaAdd
namespace Go.Proofs.Ytimchmpiaebmmaa
open Go.RowKit
set_option linter.unusedVariables false
set_option linter.unusedSimpArgs false
attribute [local go_sem ↓] Go.wp_at_zero Go.wp_at_succ

theorem order_facts {x y z : ByteArray} (hx : Txt x) (hy : Txt y) (_ : Txt z) : (cmpI (num x) (num y) == 0) = (x.toList == y.toList) := by
  by_cases h : x = y
  · subst h; rw [cmpI_eq rfl]; simp
  · have h1 : (x.toList == y.toList) = false := beq_eq_false_iff_ne.2 (fun e => h (tl_inj e))
    have h2 : (cmpI (num x) (num y) == 0) = false := beq_eq_false_iff_ne.2 (fun e => h (num_inj hx hy ((cmpI_zero _ _).1 e)))
    rw [h1, h2]
set_option maxRecDepth 100000 in
set_option maxHeartbeats 2000000 in
theorem order_any (x y z : ByteArray) (w : World) :
    Calls Try.prog 4 #[.string x, .string y, .string z] w fun e w' => e = .returned (.bool true) ∧ Below w.heap.size w w' := by
  have hb0 : Below w.heap.size w (w.alloc (Obj.cells #[.string x, .string y, .string z] 9)) := (Below.refl _ _).alloc (Nat.le_refl _) _
  go_enter Try.func4, Try.ntmps4
  go_wp2_with fail
  refine (long_any _ w.heap.size 3 [x, y, z] (by omega) ?_).mono ?_
  · intro k hk
    match k, hk with
    | 0, _ => simp [go_sem, sg]
    | 1, _ => simp [go_sem, sg]
    | 2, _ => simp [go_sem, sg]
  rintro e w1 ⟨h | ⟨h, hsz⟩, rfl⟩
  · rw [h]
    go_wp2
    go_ret
    exact ⟨rfl, hb0⟩
  rw [h]
  have hx := hsz 0 (by omega)
  have hy := hsz 1 (by omega)
  have hz := hsz 2 (by omega)
  simp only [sg, List.getD_cons_zero, List.getD_cons_succ] at hx hy hz
  clear hsz h
  generalize w.alloc (Obj.cells #[.string x, .string y, .string z] 9) = w1 at *
  go_wp2_with fail
  refine (number_any x _ (by omega)).mono ?_
  rintro e u1 ⟨⟨aa, la, ca, ar1, lr1, cr1, b1, rfl, f1⟩, hb1⟩
  have F1 := hid f1
  clear f1
  go_wp2_with fail
  refine (number_any y _ (by omega)).mono ?_
  rintro e u2 ⟨⟨ab, lb, cb, ar2, lr2, cr2, b2, rfl, f2⟩, hb2⟩
  have F2 := hid f2
  clear f2
  go_wp2_with fail
  refine (number_any z _ (by omega)).mono ?_
  rintro e u3 ⟨⟨ac, lc, cc, ar3, lr3, cr3, b3, rfl, f3⟩, hb3⟩
  have F3 := hid f3
  clear f3
  have c1 := boxed2 hb1 (Obj.cells #[Value.slice aa la ca] 24) (Obj.cells #[Value.slice ar1 lr1 cr1] 27)
  have c2 := boxed2 hb2 (Obj.cells #[Value.slice ab lb cb] 24) (Obj.cells #[Value.slice ar2 lr2 cr2] 27)
  have c3 := boxed2 hb3 (Obj.cells #[Value.slice ac lc cc] 24) (Obj.cells #[Value.slice ar3 lr3 cr3] 27)
  have d1 := boxed2 (Below.refl u1.heap.size u1) (Obj.cells #[Value.slice aa la ca] 24) (Obj.cells #[Value.slice ar1 lr1 cr1] 27)
  have d2 := boxed2 (Below.refl u2.heap.size u2) (Obj.cells #[Value.slice ab lb cb] 24) (Obj.cells #[Value.slice ar2 lr2 cr2] 27)
  have d3 := boxed2 (Below.refl u3.heap.size u3) (Obj.cells #[Value.slice ac lc cc] 24) (Obj.cells #[Value.slice ar3 lr3 cr3] 27)
  have p1 := boxed2_first u1 (Obj.cells #[Value.slice aa la ca] 24) (Obj.cells #[Value.slice ar1 lr1 cr1] 27)
  have p2 := boxed2_first u2 (Obj.cells #[Value.slice ab lb cb] 24) (Obj.cells #[Value.slice ar2 lr2 cr2] 27)
  have p3 := boxed2_first u3 (Obj.cells #[Value.slice ac lc cc] 24) (Obj.cells #[Value.slice ar3 lr3 cr3] 27)
  clear hb1
  generalize (u1.alloc (Obj.cells #[Value.slice aa la ca] 24)).alloc (Obj.cells #[Value.slice ar1 lr1 cr1] 27) = W1 at *
  generalize (u2.alloc (Obj.cells #[Value.slice ab lb cb] 24)).alloc (Obj.cells #[Value.slice ar2 lr2 cr2] 27) = W2 at *
  have g1 : Below w.heap.size w ((u3.alloc (Obj.cells #[Value.slice ac lc cc] 24)).alloc (Obj.cells #[Value.slice ar3 lr3 cr3] 27)) :=
    chain3 hb0 c1 c2 c3
  have q2 := box_below c3 p2 (lt_of_block p2)
  have q1 := box_below c3 (box_below c2 p1 (lt_of_block p1)) (lt_of_block (box_below c2 p1 (lt_of_block p1)))
  have hall : b1 = true ∧ b2 = true ∧ b3 = true ∨ b1 = false ∨ b2 = false ∨ b3 = false := by
    cases b1 <;> cases b2 <;> cases b3 <;> simp
  rcases hall with ⟨rfl, rfl, rfl⟩ | hall
  · obtain ⟨tx, na1, _⟩ := F1.out rfl
    obtain ⟨ty, nb1, _⟩ := F2.out rfl
    obtain ⟨tz, nc1, _⟩ := F3.out rfl
    have na2 := ((na1.below d1).below c2).below c3
    have nb2 := (nb1.below d2).below c3
    have nc2 := nc1.below d3
    have E := hid (order_facts tx ty tz)
    have s2 := box_below hb3 p2 (lt_of_block p2)
    have s1 := box_below hb3 (box_below c2 p1 (lt_of_block p1)) (lt_of_block (box_below c2 p1 (lt_of_block p1)))
    have l1 := lt_of_block s1
    have l2 := lt_of_block s2
    have r1 := cell_of_one s1
    have r2 := cell_of_one s2
    clear s1 s2
    clear F1 F2 F3 c1 c2 c3 d1 d2 d3 hb2 hb3 p1 p2 tx ty tz
    go_wp2_with fail
    generalize (u3.alloc (Obj.cells #[Value.slice ac lc cc] 24)).alloc (Obj.cells #[Value.slice ar3 lr3 cr3] 27) = W3 at *
    refine (cmp_any _ _ _ _ _ _ _ na2 nb2).mono ?_
    rintro e w4 ⟨rfl, hb4⟩
    have na := na2.below hb4
    have nb := nb2.below hb4
    have nc := nc2.below hb4
    have t1 := cell_of_one (box_below hb4 q1 (lt_of_block q1))
    have t2 := cell_of_one (box_below hb4 q2 (lt_of_block q2))
    have t3 := cell_of_one (box_below hb4 p3 (lt_of_block p3))
    have g4 : Below w.heap.size w w4 := g1.trans (hb4.mono g1.size)
    clear hb4 r1 r2 g1 q1 q2 p3 na1 nb1 nc1 na2 nb2 nc2 l1 l2
    have E2 := hid (cmpI_neg (num x) (num y))
    have E3 := hid (cmpI_add (num x) (num y) (num z))
    have E4 := hid (cmpI_trans (num x) (num y) (num z))
    have E5 := cmpI_bd (num x) (num y)
    obtain ⟨E5a, E5b⟩ := E5
    generalize num x = X at *
    generalize num y = Y at *
    generalize num z = Z at *
    obtain ⟨q, hq⟩ : ∃ q, cmpI X Y = q := ⟨_, rfl⟩
    rw [hq] at E E2 E3 E4 E5a E5b ⊢
    have HQ := hid hq
    clear hq
    have EX : (x.toList == y.toList) = (q == 0) := E.out.symm
    go_wp2
    have hwr : IntKind.i64.wrap q = q := by simp [IntKind.wrap, IntKind.bits, IntKind.signed]; omega
    have B0 : Below w4.heap.size w4 w4.drew := (Below.refl _ _).drew
    go_region_held3 (fun w' => w'.cell? ⟨u1.heap.size, 0, none⟩ = some (.slice aa la ca) ∧ w'.cell? ⟨u2.heap.size, 0, none⟩ = some (.slice ab lb cb) ∧ w'.cell? ⟨u3.heap.size, 0, none⟩ = some (.slice ac lc cc))
      ((refine keep3 t1 t2 t3 ?_; first | exact B0 | exact B1 | exact B2 | exact B3 | exact B4))
      (first | (go_at_call_of 10 (Value.agg #[Value.slice ab lb cb]); refine (cmp_any _ _ _ _ _ _ _ (nb.below B0) (na.below B0)).mono ?_; rintro e w5 ⟨rfl, hb5⟩; have B1 := chain2 B0 hb5; rw [E2.out]) | (go_at_call_of 7 (Value.agg #[Value.slice aa la ca]); refine (add_any _ _ _ _ _ _ _ (by omega) (by omega) (na.below B1) (nc.below B1)).mono ?_; rintro e w6 ⟨v6, rfl, n6, hb6⟩; have B2 := chain2 B1 hb6) | (go_at_call_of 7 (Value.agg #[Value.slice ab lb cb]); refine (add_any _ _ _ _ _ _ _ (by omega) (by omega) (nb.below B2) (nc.below B2)).mono ?_; rintro e w7 ⟨v7, rfl, n7, hb7⟩; have B3 := chain2 B2 hb7) | (go_at_call 10; refine (cmp_any _ _ _ _ _ _ _ (n6.below hb7) n7).mono ?_; rintro e w8 ⟨rfl, hb8⟩; have B4 := chain2 B3 hb8; rw [E3.out]))
    have k3 := keep3 t1 t2 t3 B4
    obtain ⟨v1, v2, v3⟩ := k3
    have na := na.below B4
    have nb := nb.below B4
    have nc := nc.below B4
    have g8 := chain2 g4 B4
    clear B0 B1 B2 B3 B4 t1 t2 t3 hb5 hb6 hb7 hb8 n6 n7 hwr EX g4
    have E4' : 0 < q ∨ (¬ 0 < q ∧ 0 < cmpI Y Z) ∨ (¬ 0 < q ∧ ¬ 0 < cmpI Y Z ∧ cmpI X Z ≤ 0) := by
      have := E4.out
      by_cases h1 : 0 < q
      · exact Or.inl h1
      · by_cases h2 : 0 < cmpI Y Z
        · exact Or.inr (Or.inl ⟨h1, h2⟩)
        · exact Or.inr (Or.inr ⟨h1, h2, by omega⟩)
    rcases E4' with h1 | ⟨h1, h2⟩ | ⟨h1, h2, h3⟩
    · go_wp2_with fail
      refine (cmp_any _ _ _ _ _ _ _ na nb).mono ?_
      rintro e w9 ⟨rfl, hb9⟩
      rw [HQ.out]
      have g9 := chain2 g8 hb9
      go_wp2
      go_ret
      exact ⟨rfl, g9⟩
    · go_wp2_with fail
      refine (cmp_any _ _ _ _ _ _ _ na nb).mono ?_
      rintro e w9 ⟨rfl, hb9⟩
      rw [HQ.out]
      have g9 := chain2 g8 hb9
      obtain ⟨v1, v2, v3⟩ := keep3 v1 v2 v3 hb9
      go_wp2_with fail
      refine (cmp_any _ _ _ _ _ _ _ (nb.below hb9) (nc.below hb9)).mono ?_
      rintro e w10 ⟨rfl, hb10⟩
      have g10 := chain2 g9 hb10
      go_wp2
      go_ret
      exact ⟨rfl, g10⟩
    · go_wp2_with fail
      refine (cmp_any _ _ _ _ _ _ _ na nb).mono ?_
      rintro e w9 ⟨rfl, hb9⟩
      rw [HQ.out]
      have g9 := chain2 g8 hb9
      obtain ⟨v1, v2, v3⟩ := keep3 v1 v2 v3 hb9
      go_wp2_with fail
      refine (cmp_any _ _ _ _ _ _ _ (nb.below hb9) (nc.below hb9)).mono ?_
      rintro e w10 ⟨rfl, hb10⟩
      have g10 := chain2 g9 hb10
      obtain ⟨v1, v2, v3⟩ := keep3 v1 v2 v3 hb10
      go_wp2_with fail
      refine (cmp_any _ _ _ _ _ _ _ ((na.below hb9).below hb10) ((nc.below hb9).below hb10)).mono ?_
      rintro e w11 ⟨rfl, hb11⟩
      have g11 := chain2 g10 hb11
      go_wp2
      go_ret
      exact ⟨rfl, g11⟩
  · have hb : b1 = false ∨ b1 = true ∧ b2 = false ∨ b1 = true ∧ b2 = true ∧ b3 = false := by
      cases b1 <;> cases b2 <;> cases b3 <;> simp at hall ⊢
    clear hall
    rcases hb with rfl | ⟨rfl, rfl⟩ | ⟨rfl, rfl, rfl⟩
    all_goals
      go_wp2
      go_ret
      exact ⟨rfl, g1⟩
end Go.Proofs.Ytimchmpiaebmmaa
