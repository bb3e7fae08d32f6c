/- NatSquares: what the call answers. -/
import Derived.Test.YtimchmpiaebmmaaDoorLaws
import Derived.Test.YtimchmpiaebmmaaDoorAdd
import Derived.Test.YtimchmpiaebmmaaDoorSub
import Derived.Test.YtimchmpiaebmmaaDoorMul
import Derived.Test.YtimchmpiaebmmaaDoorOf
import Derived.Test.YtimchmpiaebmmaaDoorText
namespace Go.Proofs.YtimchmpiaebmmaaDoor
open Go.RowKit
set_option linter.unusedVariables false
set_option maxRecDepth 100000
set_option linter.unusedSimpArgs false
attribute [local go_sem ↓] Go.wp_at_zero Go.wp_at_succ

theorem keep4 {W X : World} {p q r s : Nat} {a b c d : Value} (hp : W.cell? ⟨p, 0, none⟩ = some a) (hq : W.cell? ⟨q, 0, none⟩ = some b) (hr : W.cell? ⟨r, 0, none⟩ = some c) (hs : W.cell? ⟨s, 0, none⟩ = some d) (h : Below W.heap.size W X) :
    X.cell? ⟨p, 0, none⟩ = some a ∧ X.cell? ⟨q, 0, none⟩ = some b ∧ X.cell? ⟨r, 0, none⟩ = some c ∧ X.cell? ⟨s, 0, none⟩ = some d :=
  ⟨(keep3 hp hq hr h).1, (keep3 hp hq hr h).2.1, (keep3 hp hq hr h).2.2, (h.cell (World.block_lt_of_cell? W _ hs)).trans hs⟩
theorem square_sum (a b : Nat) : (a + b) * (a + b) = a * a + a * b * 2 + b * b := by
  rw [Nat.add_mul, Nat.mul_add, Nat.mul_add, Nat.mul_comm b a]; omega
theorem square_diff {a b : Nat} (h : b ≤ a) : (a + b) * (a - b) = a * a - b * b := by
  obtain ⟨d, rfl⟩ := Nat.exists_eq_add_of_le h
  rw [Nat.add_sub_cancel_left]
  have : (b + d) * (b + d) = b * b + (b + d + b) * d := by
    simp only [Nat.add_mul, Nat.mul_add, Nat.mul_comm d b]; omega
  omega
theorem end_set {X0 w13 : World} {g : Nat} {v : Value} {m K : Nat} (B3 : Below X0.heap.size X0 w13) (z0 : w13.heap[g]? = some (Obj.cells #[Value.slice none 0 0] 26)) (hg : X0.heap.size ≤ g) (m3 : NatIs w13 v m K) (u : Value) :
    Below X0.heap.size X0 (w13.setCell ⟨g, 0, none⟩ u) ∧ (w13.setCell ⟨g, 0, none⟩ u).heap[g]? = some (Obj.cells #[u] 26) ∧ NatIs (w13.setCell ⟨g, 0, none⟩ u) v m K :=
  ⟨B3.setCell (p := ⟨g, 0, none⟩) hg u, one_setCell (u := u) z0, m3.box z0 (by decide) u⟩
theorem end_new {X0 w13 : World} {v : Value} {m K : Nat} (B3 : Below X0.heap.size X0 w13) (m3 : NatIs w13 v m K) (u : Value) :
    Below X0.heap.size X0 (w13.alloc (Obj.cells #[u] 26)) ∧ (w13.alloc (Obj.cells #[u] 26)).heap[w13.heap.size]? = some (Obj.cells #[u] 26) ∧ NatIs (w13.alloc (Obj.cells #[u] 26)) v m K :=
  ⟨below_alloc' B3 (Nat.le_refl _) _, box_new _ _, m3.below ((Below.refl _ _).alloc (Nat.le_refl _) _)⟩
theorem two_text {s : ByteArray} (h : Txt s) (e : num s = 2) : s = ⟨#[50]⟩ := by
  have ht : Txt ⟨#[50]⟩ := by
    refine ⟨by decide, by decide, fun k hk => ?_⟩
    obtain rfl : k = 0 := by have : (⟨#[50]⟩ : ByteArray).size = 1 := rfl; omega
    decide
  exact num_inj h ht (by rw [e]; decide)
theorem sub_form (w : World) (a b : Value) (m n K K' : Nat) (hK : K ≤ 1000000000) (hK' : K' ≤ 1000000000) (ha : NatIs w a m K) (hb : NatIs w b n K') (h : n ≤ m) :
    Calls Tryd.prog 13 #[a, b] w fun e w' => ∃ ao l c, e = .returned (.tuple #[.agg #[.slice ao l c], .int .i64 0]) ∧ NatIs w' (.agg #[.slice ao l c]) (m - n) K ∧ Below w.heap.size w w' := by
  refine (sub_any w a b m n K K' hK hK' ha hb h).mono ?_
  rintro e w' ⟨v, rfl, nv, hb⟩
  obtain ⟨ao, l, c, rfl⟩ := nv.form
  exact ⟨ao, l, c, rfl, nv, hb⟩
set_option maxRecDepth 100000 in
set_option maxHeartbeats 2000000 in
theorem squares_any (x y : ByteArray) (w : World) (htab : Tab w) :
    Calls Tryd.prog 3 #[.string x, .string y] w fun e w' => e = .returned (.bool true) ∧ Below w.heap.size w w' := by
  have hb0 : Below w.heap.size w (w.alloc (Obj.cells #[.string x, .string y] 9)) := (Below.refl _ _).alloc (Nat.le_refl _) _
  go_enter Tryd.func3, Tryd.ntmps3
  go_wp2_with fail
  refine (long_any _ w.heap.size 2 [x, y] (by omega) ?_).mono ?_
  · intro k hk
    match k, hk with
    | 0, _ => simp [go_sem, sg]
    | 1, _ => simp [go_sem, sg]
  rintro e w1 ⟨h | ⟨h, hsz⟩, rfl⟩
  · rw [h]
    go_wp2
    go_ret
    exact ⟨rfl, hb0⟩
  rw [h]
  have hx := hsz 0 (by omega)
  have hy := hsz 1 (by omega)
  simp only [sg, List.getD_cons_zero, List.getD_cons_succ] at hx hy
  clear hsz h
  generalize w.alloc (Obj.cells #[.string x, .string y] 9) = w1 at *
  go_wp2_with fail
  refine (number_any x _ (by omega)).mono ?_
  rintro e u1 ⟨⟨aa, la, ca, ar1, lr1, cr1, b1, rfl, f1⟩, hb1⟩
  have F1 := hid f1
  clear f1
  go_wp2_with fail
  refine (number_any y _ (by omega)).mono ?_
  rintro e u2 ⟨⟨ab, lb, cb, ar2, lr2, cr2, b2, rfl, f2⟩, hb2⟩
  have F2 := hid f2
  clear f2
  have c1 := boxed2 hb1 (Obj.cells #[Value.slice aa la ca] 26) (Obj.cells #[Value.slice ar1 lr1 cr1] 29)
  have c2 := boxed2 hb2 (Obj.cells #[Value.slice ab lb cb] 26) (Obj.cells #[Value.slice ar2 lr2 cr2] 29)
  have d1 := boxed2 (Below.refl u1.heap.size u1) (Obj.cells #[Value.slice aa la ca] 26) (Obj.cells #[Value.slice ar1 lr1 cr1] 29)
  have d2 := boxed2 (Below.refl u2.heap.size u2) (Obj.cells #[Value.slice ab lb cb] 26) (Obj.cells #[Value.slice ar2 lr2 cr2] 29)
  have p1 := boxed2_first u1 (Obj.cells #[Value.slice aa la ca] 26) (Obj.cells #[Value.slice ar1 lr1 cr1] 29)
  have p2 := boxed2_first u2 (Obj.cells #[Value.slice ab lb cb] 26) (Obj.cells #[Value.slice ar2 lr2 cr2] 29)
  have l0 : w.heap.size ≤ u1.heap.size := by have := hb0.size; have := hb1.size; omega
  clear hb1
  generalize (u1.alloc (Obj.cells #[Value.slice aa la ca] 26)).alloc (Obj.cells #[Value.slice ar1 lr1 cr1] 29) = W1 at *
  have g1 := chain2 (chain2 hb0 c1) c2
  have q1 := box_below c2 p1 (lt_of_block p1)
  have hall : b1 = true ∧ b2 = true ∨ b1 = false ∨ b2 = false := by
    cases b1 <;> cases b2 <;> simp
  rcases hall with ⟨rfl, rfl⟩ | hall
  · obtain ⟨tx, na1, _⟩ := F1.out rfl
    obtain ⟨ty, nb1, _⟩ := F2.out rfl
    have na2 := (na1.below d1).below c2
    have nb2 := nb1.below d2
    have tab2 := htab.below g1
    have s1 := box_below hb2 p1 (lt_of_block p1)
    have l1 := lt_of_block s1
    have r1 := cell_of_one s1
    clear F1 F2 c1 c2 d1 d2 hb2 s1 tx ty na1 nb1 p1
    go_wp2_with fail
    generalize (u2.alloc (Obj.cells #[Value.slice ab lb cb] 26)).alloc (Obj.cells #[Value.slice ar2 lr2 cr2] 29) = W2 at *
    refine (of_lit 2 2 rfl (by omega) _).mono ?_
    rintro e w3 ⟨v, rfl, nt, hb3⟩
    obtain ⟨at3, lt3, ct3, hv⟩ := nt.form
    rw [hv] at nt ⊢
    clear hv
    have c3 := below_alloc' (chain2 g1 hb3) (Nat.le_refl _) (Obj.cells #[Value.slice at3 lt3 ct3] 26)
    have i1 := box_alloc (box_below hb3 q1 (lt_of_block q1)) (Obj.cells #[Value.slice at3 lt3 ct3] 26)
    have i2 := box_alloc (box_below hb3 p2 (lt_of_block p2)) (Obj.cells #[Value.slice at3 lt3 ct3] 26)
    have i3 := box_new w3 (Obj.cells #[Value.slice at3 lt3 ct3] 26)
    have hx3 := below_alloc' hb3 (Nat.le_refl _) (Obj.cells #[Value.slice at3 lt3 ct3] 26)
    have na3 := na2.below hx3
    have nb3 := nb2.below hx3
    have nt3 := nt.below ((Below.refl _ _).alloc (Nat.le_refl _) (Obj.cells #[Value.slice at3 lt3 ct3] 26))
    have k1 := cell_of_one i1
    have k2 := cell_of_one i2
    have l3 : u2.heap.size < w3.heap.size := lt_of_block (box_below hb3 p2 (lt_of_block p2))
    clear g1 hb3 q1 p2 na2 nb2 nt hx3 r1
    go_wp2_with fail
    generalize w3.alloc (Obj.cells #[Value.slice at3 lt3 ct3] 26) = W3 at *
    refine (add_any _ _ _ _ _ _ _ (by omega) (by omega) na3 nb3).mono ?_
    rintro e w4 ⟨v, rfl, ns, hb4⟩
    obtain ⟨as4, ls4, cs4, hv⟩ := ns.form
    rw [hv] at ns ⊢
    clear hv k1 k2
    have c4 := below_alloc' (chain2 c3 hb4) (Nat.le_refl _) (Obj.cells #[Value.slice as4 ls4 cs4] 26)
    have j1 := box_alloc (box_below hb4 i1 (lt_of_block i1)) (Obj.cells #[Value.slice as4 ls4 cs4] 26)
    have j2 := box_alloc (box_below hb4 i2 (lt_of_block i2)) (Obj.cells #[Value.slice as4 ls4 cs4] 26)
    have j3 := box_alloc (box_below hb4 i3 (lt_of_block i3)) (Obj.cells #[Value.slice as4 ls4 cs4] 26)
    have j4 := box_new w4 (Obj.cells #[Value.slice as4 ls4 cs4] 26)
    have hx4 := below_alloc' hb4 (Nat.le_refl _) (Obj.cells #[Value.slice as4 ls4 cs4] 26)
    have na := na3.below hx4
    have nb := nb3.below hx4
    have nt := nt3.below hx4
    have ns := ns.below ((Below.refl _ _).alloc (Nat.le_refl _) (Obj.cells #[Value.slice as4 ls4 cs4] 26))
    have l4 : w3.heap.size < w4.heap.size := lt_of_block (box_below hb4 i3 (lt_of_block i3))
    have t1 := cell_of_one j1
    have t2 := cell_of_one j2
    have t3 := cell_of_one j3
    have t4 := cell_of_one j4
    clear c3 hb4 i1 i2 i3 na3 nb3 nt3 hx4
    have E := hid (cmpI_eq (square_sum (num x) (num y)))
    go_wp2
    generalize w4.alloc (Obj.cells #[Value.slice as4 ls4 cs4] 26) = W4 at *
    have tab4 := htab.below c4
    generalize num x = X at *
    generalize num y = Y at *
    have B0 : Below W4.heap.size W4 W4.drew := (Below.refl _ _).drew
    go_region_held3 (fun w' => w'.cell? ⟨u1.heap.size, 0, none⟩ = some (.slice aa la ca) ∧ w'.cell? ⟨u2.heap.size, 0, none⟩ = some (.slice ab lb cb) ∧ w'.cell? ⟨w3.heap.size, 0, none⟩ = some (.slice at3 lt3 ct3) ∧ w'.cell? ⟨w4.heap.size, 0, none⟩ = some (.slice as4 ls4 cs4)) ((refine keep4 t1 t2 t3 t4 ?_; first | exact B0 | exact B1 | exact B2 | exact B3 | exact B4 | exact B5 | exact B6 | exact B7 | exact B8)) (first
      | (have gk := B7; go_at_call 12; refine (cmp_any _ _ _ _ _ _ _ n1 n7).mono ?_; rintro e w8 ⟨rfl, hb8⟩; have B8 := chain2 B7 hb8; rw [E.out])
      | (have gk := B6; go_at_call 10; refine (add_any _ _ _ _ _ _ _ (by omega) (by omega) n5 n6).mono ?_; rintro e w7 ⟨v7, rfl, n7, hb7⟩; have B7 := chain2 B6 hb7; have n1 := n1.below hb7)
      | (have gk := B5; go_at_call 11; refine (mul_any _ _ _ _ _ _ _ (by omega) (by omega) (nb.below B5) (nb.below B5)).mono ?_; rintro e w6 ⟨v6, rfl, n6, hb6⟩; have B6 := chain2 B5 hb6; have n1 := n1.below hb6; have n5 := n5.below hb6)
      | (have gk := B4; go_at_call 10; refine (add_any _ _ _ _ _ _ _ (by omega) (by omega) n2 n4).mono ?_; rintro e w5 ⟨v5, rfl, n5, hb5⟩; have B5 := chain2 B4 hb5; have n1 := n1.below hb5)
      | (have gk := B3; go_at_call 11; refine (mul_any _ _ _ _ _ _ _ (by omega) (by omega) n3 (nt.below B3)).mono ?_; rintro e w9 ⟨v4, rfl, n4, hb9⟩; have B4 := chain2 B3 hb9; have n1 := n1.below hb9; have n2 := n2.below hb9)
      | (have gk := B2; go_at_call 11; refine (mul_any _ _ _ _ _ _ _ (by omega) (by omega) (na.below B2) (nb.below B2)).mono ?_; rintro e w10 ⟨v3, rfl, n3, hb10⟩; have B3 := chain2 B2 hb10; have n1 := n1.below hb10; have n2 := n2.below hb10)
      | (have gk := B1; go_at_call 11; refine (mul_any _ _ _ _ _ _ _ (by omega) (by omega) (na.below B1) (na.below B1)).mono ?_; rintro e w11 ⟨v2, rfl, n2, hb11⟩; have B2 := chain2 B1 hb11; have n1 := n1.below hb11)
      | (have gk := B0; go_at_call 11; refine (mul_any _ _ _ _ _ _ _ (by omega) (by omega) (ns.below B0) (ns.below B0)).mono ?_; rintro e w12 ⟨v1, rfl, n1, hb12⟩; have B1 := chain2 B0 hb12))
    have c8 := chain2 c4 B8
    have j1 := box_below B8 j1 (lt_of_block j1)
    have j2 := box_below B8 j2 (lt_of_block j2)
    have j3 := box_below B8 j3 (lt_of_block j3)
    have j4 := box_below B8 j4 (lt_of_block j4)
    have na := na.below B8
    have nb := nb.below B8
    have nt := nt.below B8
    have ns := ns.below B8
    have t1 := cell_of_one j1
    have t2 := cell_of_one j2
    clear B0 B1 B2 B3 B4 B5 B6 B7 B8 hb5 hb6 hb7 hb8 hb9 hb10 hb11 hb12 n1 n2 n3 n4 n5 n6 n7 t3 t4 c4 tab4 E
    go_wp2_with fail
    refine (cmp_any _ _ _ _ _ _ _ na nb).mono ?_
    rintro e w9 ⟨rfl, hb9⟩
    have c9 := chain2 c8 hb9
    have j1 := box_below hb9 j1 (lt_of_block j1)
    have j2 := box_below hb9 j2 (lt_of_block j2)
    have j3 := box_below hb9 j3 (lt_of_block j3)
    have j4 := box_below hb9 j4 (lt_of_block j4)
    have na := na.below hb9
    have nb := nb.below hb9
    have nt := nt.below hb9
    have ns := ns.below hb9
    clear hb9 t1 t2 c8
    have t1 := cell_of_one j1
    have t2 := cell_of_one j2
    have f1 := free_of_one j1
    have f2 := free_of_one j2
    have hlt : X < Y ∨ Y ≤ X := by omega
    rcases hlt with hlt | hlt
    case' inl =>
      rw [cmpI_lt hlt]
      have k1 := box_set (one_setCell (u := Value.slice ab lb cb) j1) (show u1.heap.size ≠ u2.heap.size by omega) (Value.slice aa la ca)
      have k2' := box_set j2 (show u2.heap.size ≠ u1.heap.size by omega) (Value.slice ab lb cb)
      have k2 := one_setCell (u := Value.slice aa la ca) k2'
      have k3 := box_set (box_set j3 (show w3.heap.size ≠ u1.heap.size by omega) (Value.slice ab lb cb)) (show w3.heap.size ≠ u2.heap.size by omega) (Value.slice aa la ca)
      have k4 := box_set (box_set j4 (show w4.heap.size ≠ u1.heap.size by omega) (Value.slice ab lb cb)) (show w4.heap.size ≠ u2.heap.size by omega) (Value.slice aa la ca)
      have nq := (na.box j1 (by decide) (Value.slice ab lb cb)).box k2' (by decide) (Value.slice aa la ca)
      have np := (nb.box j1 (by decide) (Value.slice ab lb cb)).box k2' (by decide) (Value.slice aa la ca)
      have nt := (nt.box j1 (by decide) (Value.slice ab lb cb)).box k2' (by decide) (Value.slice aa la ca)
      have ns := (ns.box j1 (by decide) (Value.slice ab lb cb)).box k2' (by decide) (Value.slice aa la ca)
      have cV := (c9.setCell (p := ⟨u1.heap.size, 0, none⟩) l0 (Value.slice ab lb cb)).setCell (p := ⟨u2.heap.size, 0, none⟩) (show w.heap.size ≤ u2.heap.size by omega) (Value.slice aa la ca)
      have M := hid (And.intro k1 (And.intro k2 (And.intro k3 (And.intro k4 (And.intro np (And.intro nq (And.intro nt (And.intro ns cV))))))))
      clear k1 k2 k2' k3 k4 nq np nt ns cV na nb c9 j1 j2 j3 j4
      rw [Nat.add_comm X Y] at M
      have hQP : X ≤ Y := by omega
      clear hlt
      go_wp2_with fail
      generalize (w9.setCell { block := u1.heap.size, off := 0 } (Value.slice ab lb cb)).setCell { block := u2.heap.size, off := 0 } (Value.slice aa la ca) = V at *
      obtain ⟨ap, e1⟩ : ∃ v, v = ab := ⟨_, rfl⟩
      obtain ⟨lp, e2⟩ : ∃ v, v = lb := ⟨_, rfl⟩
      obtain ⟨cp, e3⟩ : ∃ v, v = cb := ⟨_, rfl⟩
      obtain ⟨aq, e4⟩ : ∃ v, v = aa := ⟨_, rfl⟩
      obtain ⟨lq, e5⟩ : ∃ v, v = la := ⟨_, rfl⟩
      obtain ⟨cq, e6⟩ : ∃ v, v = ca := ⟨_, rfl⟩
      obtain ⟨P, e7⟩ : ∃ v, v = Y := ⟨_, rfl⟩
      obtain ⟨Q, e8⟩ : ∃ v, v = X := ⟨_, rfl⟩
      subst e1 e2 e3 e4 e5 e6 e7 e8
      clear t1 t2 f1 f2
    case' inr =>
      obtain ⟨q, hq⟩ : ∃ q, cmpI X Y = q := ⟨_, rfl⟩
      have hq0 : ¬ q < 0 := by rw [← hq]; unfold cmpI; repeat' split
                               all_goals omega
      rw [hq]
      clear hq
      have M := hid (And.intro j1 (And.intro j2 (And.intro j3 (And.intro j4 (And.intro na (And.intro nb (And.intro nt (And.intro ns c9))))))))
      clear na nb nt ns c9 j1 j2 j3 j4
      go_wp2_with fail
      clear t1 t2 f1 f2 hq0
      have hQP := hlt
      obtain ⟨ap, e1⟩ : ∃ v, v = aa := ⟨_, rfl⟩
      obtain ⟨lp, e2⟩ : ∃ v, v = la := ⟨_, rfl⟩
      obtain ⟨cp, e3⟩ : ∃ v, v = ca := ⟨_, rfl⟩
      obtain ⟨aq, e4⟩ : ∃ v, v = ab := ⟨_, rfl⟩
      obtain ⟨lq, e5⟩ : ∃ v, v = lb := ⟨_, rfl⟩
      obtain ⟨cq, e6⟩ : ∃ v, v = cb := ⟨_, rfl⟩
      obtain ⟨P, e7⟩ : ∃ v, v = X := ⟨_, rfl⟩
      obtain ⟨Q, e8⟩ : ∃ v, v = Y := ⟨_, rfl⟩
      obtain ⟨V, e9⟩ : ∃ v, v = w9 := ⟨_, rfl⟩
      subst e1 e2 e3 e4 e5 e6 e7 e8 e9
    all_goals
      obtain ⟨j1, j2, j3, j4, np, nq, nt, ns, c9⟩ := M.out
      clear M
      have np := np.mono (show _ ≤ 100 by omega)
      have nq := nq.mono (show _ ≤ 100 by omega)
      have ns := ns.mono (show _ ≤ 100 by omega)
      refine (sub_any _ _ _ P Q _ _ (by omega) (by omega) np nq hQP).mono ?_
      rintro e w10 ⟨v, rfl, nd, hb10⟩
      obtain ⟨ad, ld, cd, hv⟩ := nd.form
      rw [hv] at nd ⊢
      clear hv
      have c10 := below_alloc' (chain2 c9 hb10) (Nat.le_refl _) (Obj.cells #[Value.slice ad ld cd] 26)
      have j1 := box_alloc (box_below hb10 j1 (lt_of_block j1)) (Obj.cells #[Value.slice ad ld cd] 26)
      have j2 := box_alloc (box_below hb10 j2 (lt_of_block j2)) (Obj.cells #[Value.slice ad ld cd] 26)
      have j3 := box_alloc (box_below hb10 j3 (lt_of_block j3)) (Obj.cells #[Value.slice ad ld cd] 26)
      have j4 := box_alloc (box_below hb10 j4 (lt_of_block j4)) (Obj.cells #[Value.slice ad ld cd] 26)
      have j5 := box_new w10 (Obj.cells #[Value.slice ad ld cd] 26)
      have hx10 := below_alloc' hb10 (Nat.le_refl _) (Obj.cells #[Value.slice ad ld cd] 26)
      have np := np.below hx10
      have nq := nq.below hx10
      have nt := nt.below hx10
      have ns := ns.below hx10
      have nd := nd.below ((Below.refl _ _).alloc (Nat.le_refl _) (Obj.cells #[Value.slice ad ld cd] 26))
      clear c9 hb10 hx10
      have t1 := cell_of_one j1
      have t2 := cell_of_one j2
      have t3 := cell_of_one j3
      have t4 := cell_of_one j4
      have t5 := cell_of_one j5
      go_wp2
      generalize w10.alloc (Obj.cells #[Value.slice ad ld cd] 26) = X0 at *
      have hle : Q * Q ≤ P * P := Nat.mul_le_mul hQP hQP
      have B0 : Below X0.heap.size X0 X0.drew := (Below.refl _ _).drew
      go_region_held3 (fun w' => w'.cell? ⟨u1.heap.size, 0, none⟩ = some (.slice ap lp cp) ∧ w'.cell? ⟨u2.heap.size, 0, none⟩ = some (.slice aq lq cq) ∧ w'.cell? ⟨w3.heap.size, 0, none⟩ = some (.slice at3 lt3 ct3) ∧ w'.cell? ⟨w4.heap.size, 0, none⟩ = some (.slice as4 ls4 cs4)) ((refine keep4 t1 t2 t3 t4 ?_; first | exact B0 | exact B1 | exact B2 | exact B3 | exact below_alloc' B0 (Nat.le_refl _) _ | exact below_alloc' B1 (Nat.le_refl _) _ | exact below_alloc' B2 (Nat.le_refl _) _ | exact below_alloc' B3 (Nat.le_refl _) _ | exact B3.setCell B2.size _ | exact B3.setCell B1.size _ | exact B3.setCell B0.size _ | exact (below_alloc' B3 (Nat.le_refl _) _).setCell B3.size _)) (first
        | (have gk := B2; go_at_call 13; refine (sub_form _ _ _ (P * P) (Q * Q) (100 + 100) (100 + 100) (by omega) (by omega) (by first | exact m1 | exact m1.below (below_alloc' (Below.refl _ _) (Nat.le_refl _) _)) (by first | exact m2 | exact m2.below (below_alloc' (Below.refl _ _) (Nat.le_refl _) _)) hle).mono ?_; rintro e w13 ⟨af, lf, cf, rfl, m3, hb13⟩; have B3 : Below X0.heap.size X0 w13 := (by first | exact chain2 B2 hb13 | exact chain2 (below_alloc' B2 (Nat.le_refl _) _) hb13); (try have z0 := box_below hb13 (box_new w12 (Obj.cells #[Value.slice none 0 0] 26)) (lt_of_block (box_new w12 (Obj.cells #[Value.slice none 0 0] 26)))); (try have z0 := box_below hb13 z0 (lt_of_block z0)); (try have z1 := cell_of_one z0); (try have z2 := free_of_one z0))
        | (have gk := B1; go_at_call 11; refine (mul_any _ _ _ Q Q 100 100 (by omega) (by omega) (by (first | exact nq.below B1 | exact nq.below (below_alloc' B1 (Nat.le_refl _) _))) (by (first | exact nq.below B1 | exact nq.below (below_alloc' B1 (Nat.le_refl _) _)))).mono ?_; rintro e w12 ⟨v2, rfl, m2, hb12⟩; have B2 : Below X0.heap.size X0 w12 := (by first | exact chain2 B1 hb12 | exact chain2 (below_alloc' B1 (Nat.le_refl _) _) hb12); have m1 := (show NatIs w12 v1 (P * P) _ from by first | exact m1.below hb12 | exact (m1.below (below_alloc' (Below.refl _ _) (Nat.le_refl _) _)).below hb12); (try have z0 := box_below hb12 (box_new w11 (Obj.cells #[Value.slice none 0 0] 26)) (lt_of_block (box_new w11 (Obj.cells #[Value.slice none 0 0] 26)))); (try have z0 := box_below hb12 z0 (lt_of_block z0)))
        | (have gk := B0; go_at_call 11; refine (mul_any _ _ _ P P 100 100 (by omega) (by omega) (by (first | exact np.below B0 | exact np.below (below_alloc' B0 (Nat.le_refl _) _))) (by (first | exact np.below B0 | exact np.below (below_alloc' B0 (Nat.le_refl _) _)))).mono ?_; rintro e w11 ⟨v1, rfl, m1, hb11⟩; have B1 : Below X0.heap.size X0 w11 := (by first | exact chain2 B0 hb11 | exact chain2 (below_alloc' B0 (Nat.le_refl _) _) hb11); (try have z0 := box_below hb11 (show (X0.drew.alloc (Obj.cells #[Value.slice none 0 0] 26)).heap[X0.heap.size]? = some (Obj.cells #[Value.slice none 0 0] 26) from box_new X0.drew (Obj.cells #[Value.slice none 0 0] 26)) (lt_of_block (box_new X0.drew (Obj.cells #[Value.slice none 0 0] 26))))))
      all_goals
        first
          | (have U := end_set B3 z0 B2.size m3 (Value.slice af lf cf); generalize w13.setCell { block := w12.heap.size, off := 0 } (Value.slice af lf cf) = V2 at U ⊢; generalize w12.heap.size = g at U ⊢)
          | (have U := end_set B3 z0 B1.size m3 (Value.slice af lf cf); generalize w13.setCell { block := w11.heap.size, off := 0 } (Value.slice af lf cf) = V2 at U ⊢; generalize w11.heap.size = g at U ⊢)
          | (have U := end_set B3 z0 (Nat.le_refl _) m3 (Value.slice af lf cf); generalize w13.setCell { block := X0.heap.size, off := 0 } (Value.slice af lf cf) = V2 at U ⊢; obtain ⟨g, hg⟩ : ∃ g, g = X0.heap.size := ⟨_, rfl⟩; have U := (show Below X0.heap.size X0 V2 ∧ V2.heap[g]? = some (Obj.cells #[Value.slice af lf cf] 26) ∧ _ from ⟨U.1, by rw [hg]; exact U.2.1, U.2.2⟩); rw [← hg]; clear hg)
          | (have U := end_new B3 m3 (Value.slice af lf cf); generalize w13.alloc (Obj.cells #[Value.slice af lf cf] 26) = V2 at U ⊢; generalize w13.heap.size = g at U ⊢)
        obtain ⟨bE, jf, nf⟩ := U
        clear B0 B1 B2 B3 hb11 hb12 hb13 m1 m2 m3 t1 t2 t3 t4 t5
        try clear z0 z1 z2
        have cE := chain2 c10 bE
        have tabE := htab.below cE
        have t1 := cell_of_one (box_below bE j4 (lt_of_block j4))
        have t2 := cell_of_one (box_below bE j5 (lt_of_block j5))
        have t3 := cell_of_one jf
        have t4 := cell_of_one (box_below bE j3 (lt_of_block j3))
        have nt := nt.below bE
        have ns := ns.below bE
        have nd := nd.below bE
        have HS := hid (square_diff hQP)
        clear bE c10 jf
        go_wp2
        have B0 : Below V2.heap.size V2 V2.drew := (Below.refl _ _).drew
        go_region_held3 (fun w' => w'.cell? ⟨w4.heap.size, 0, none⟩ = some (.slice as4 ls4 cs4) ∧ w'.cell? ⟨w10.heap.size, 0, none⟩ = some (.slice ad ld cd) ∧ w'.cell? ⟨g, 0, none⟩ = some (.slice af lf cf) ∧ w'.cell? ⟨w3.heap.size, 0, none⟩ = some (.slice at3 lt3 ct3)) ((refine keep4 t1 t2 t3 t4 ?_; first | exact B0 | exact B1 | exact B2 | exact B3 | exact B4)) (first
          | (have gk := B3; go_at_call 14; refine (text_any _ _ _ 2 (by omega) (nt.below B3) (tabE.below B3)).mono ?_; rintro e w17 ⟨⟨s3, rfl, h3, e3⟩, hb17⟩; have B4 := chain2 B3 hb17; rw [two_text h3 e3])
          | (have gk := B2; go_at_call 14; refine (text_any _ _ _ (100 + 100) (by omega) (nf.below B2) (tabE.below B2)).mono ?_; rintro e w16 ⟨⟨s2, rfl, h2, e2⟩, hb16⟩; have B3 := chain2 B2 hb16; rw [num_inj h2 h1 (e2.trans (HS.out.symm.trans e1.symm))])
          | (have gk := B1; go_at_call 14; refine (text_any _ _ _ (100 + 100) (by omega) n1 (tabE.below B1)).mono ?_; rintro e w15 ⟨⟨s1, rfl, h1, e1⟩, hb15⟩; have B2 := chain2 B1 hb15)
          | (have gk := B0; go_at_call 11; refine (mul_any _ _ _ (P + Q) (P - Q) 100 100 (by omega) (by omega) (ns.below B0) (nd.below B0)).mono ?_; rintro e w14 ⟨v1, rfl, n1, hb14⟩; have B1 := chain2 B0 hb14))
        have cF := chain2 cE B4
        go_wp2
        go_ret
        exact ⟨rfl, cF⟩
  · clear F1 F2 c1 c2 d1 d2 hb2 p1 p2 q1
    rcases hall with rfl | rfl
    all_goals first | cases b1 | cases b2 | skip
    all_goals go_wp2
    all_goals go_ret
    all_goals exact ⟨rfl, g1⟩
end Go.Proofs.YtimchmpiaebmmaaDoor
