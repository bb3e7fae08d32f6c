/- Whole numbers: both ways of dividing. -/
import Derived.Test.YtcdkoadobdgbhaaGreatDoorPk27
import Derived.Test.YtcdkoadobdgbhaaGreatDoorPk28
namespace Go.Proofs.YtcdkoadobdgbhaaGreatDoor
open Go.RowKit
set_option linter.unusedVariables false
set_option maxRecDepth 100000
set_option linter.unusedSimpArgs false
attribute [local go_sem ↓] Go.wp_at_zero Go.wp_at_succ

theorem sgn_tdiv (x y : Int) : sgn (decide (x < 0) != decide (y < 0)) (x.natAbs / y.natAbs) = x.tdiv y := by
  rcases Int.lt_or_le x 0 with hx | hx <;> rcases Int.lt_or_le y 0 with hy | hy
  · obtain ⟨m, rfl⟩ : ∃ m : Nat, x = -(m : Int) := ⟨x.natAbs, by omega⟩
    obtain ⟨n, rfl⟩ : ∃ n : Nat, y = -(n : Int) := ⟨y.natAbs, by omega⟩
    have e := Int.tmod_eq_emod_of_nonneg (a := (m : Int)) (b := (n : Int)) (by omega)
    rw [decide_eq_true hx, decide_eq_true hy]
    simp [sgn, e]
  · obtain ⟨m, rfl⟩ : ∃ m : Nat, x = -(m : Int) := ⟨x.natAbs, by omega⟩
    obtain ⟨n, rfl⟩ : ∃ n : Nat, y = (n : Int) := ⟨y.natAbs, by omega⟩
    have e := Int.tmod_eq_emod_of_nonneg (a := (m : Int)) (b := (n : Int)) (by omega)
    rw [decide_eq_true hx, decide_eq_false (Int.not_lt.2 hy)]
    simp [sgn, e]
  · obtain ⟨m, rfl⟩ : ∃ m : Nat, x = (m : Int) := ⟨x.natAbs, by omega⟩
    obtain ⟨n, rfl⟩ : ∃ n : Nat, y = -(n : Int) := ⟨y.natAbs, by omega⟩
    have e := Int.tmod_eq_emod_of_nonneg (a := (m : Int)) (b := (n : Int)) (by omega)
    rw [decide_eq_false (Int.not_lt.2 hx), decide_eq_true hy]
    simp [sgn, e]
  · obtain ⟨m, rfl⟩ : ∃ m : Nat, x = (m : Int) := ⟨x.natAbs, by omega⟩
    obtain ⟨n, rfl⟩ : ∃ n : Nat, y = (n : Int) := ⟨y.natAbs, by omega⟩
    have e := Int.tmod_eq_emod_of_nonneg (a := (m : Int)) (b := (n : Int)) (by omega)
    rw [decide_eq_false (Int.not_lt.2 hx), decide_eq_false (Int.not_lt.2 hy)]
    simp [sgn, e]
theorem sgn_tmod (x y : Int) : sgn (decide (x < 0)) (x.natAbs % y.natAbs) = x.tmod y := by
  rcases Int.lt_or_le x 0 with hx | hx <;> rcases Int.lt_or_le y 0 with hy | hy
  · obtain ⟨m, rfl⟩ : ∃ m : Nat, x = -(m : Int) := ⟨x.natAbs, by omega⟩
    obtain ⟨n, rfl⟩ : ∃ n : Nat, y = -(n : Int) := ⟨y.natAbs, by omega⟩
    have e := Int.tmod_eq_emod_of_nonneg (a := (m : Int)) (b := (n : Int)) (by omega)
    rw [decide_eq_true hx]
    simp [sgn, e]
  · obtain ⟨m, rfl⟩ : ∃ m : Nat, x = -(m : Int) := ⟨x.natAbs, by omega⟩
    obtain ⟨n, rfl⟩ : ∃ n : Nat, y = (n : Int) := ⟨y.natAbs, by omega⟩
    have e := Int.tmod_eq_emod_of_nonneg (a := (m : Int)) (b := (n : Int)) (by omega)
    rw [decide_eq_true hx]
    simp [sgn, e]
  · obtain ⟨m, rfl⟩ : ∃ m : Nat, x = (m : Int) := ⟨x.natAbs, by omega⟩
    obtain ⟨n, rfl⟩ : ∃ n : Nat, y = -(n : Int) := ⟨y.natAbs, by omega⟩
    have e := Int.tmod_eq_emod_of_nonneg (a := (m : Int)) (b := (n : Int)) (by omega)
    rw [decide_eq_false (Int.not_lt.2 hx)]
    simp [sgn, e]
  · obtain ⟨m, rfl⟩ : ∃ m : Nat, x = (m : Int) := ⟨x.natAbs, by omega⟩
    obtain ⟨n, rfl⟩ : ∃ n : Nat, y = (n : Int) := ⟨y.natAbs, by omega⟩
    have e := Int.tmod_eq_emod_of_nonneg (a := (m : Int)) (b := (n : Int)) (by omega)
    rw [decide_eq_false (Int.not_lt.2 hx)]
    simp [sgn, e]
theorem box_set2 {w : World} {b c : Nat} {o : Obj} (hb : w.heap[b]? = some o) (hne : b ≠ c) (x y : Value) : ((w.setCell ⟨c, 0, none⟩ x).setCell ⟨c, 1, none⟩ y).heap[b]? = some o := (Below.heap_setCell _ _ y b hne).trans ((Below.heap_setCell w _ x b hne).trans hb)
/-- Two whole numbers that are written into their variables. -/
theorem ndiv_out {w0 w1 : World} {p q : Nat} {u v u' v' : Value} {a1 a2 : Option Addr} {l1 c1 l2 c2 m n K K' : Nat} {x1 x2 : Value} (hb : Below w0.heap.size w0 w1) (hp : w0.heap.size ≤ p) (hq : w0.heap.size ≤ q) (hne : p ≠ q) (h1 : w1.heap[p]? = some (.cells #[u, v] 71 (0, 0))) (h2 : w1.heap[q]? = some (.cells #[u', v'] 71 (0, 0)))
    (hx : NatIs w1 (.agg #[.slice a1 l1 c1]) m K) (hy : NatIs w1 (.agg #[.slice a2 l2 c2]) n K') (X : World) (hX : X = ((((w1.setCell ⟨p, 0, none⟩ (.slice a1 l1 c1)).setCell ⟨p, 1, none⟩ x1).setCell ⟨q, 0, none⟩ (.slice a2 l2 c2)).setCell ⟨q, 1, none⟩ x2)) :
    NatIs X (.agg #[.slice a1 l1 c1]) m K ∧ NatIs X (.agg #[.slice a2 l2 c2]) n K' ∧ Below w0.heap.size w0 X ∧ X.cell? ⟨p, 0, none⟩ = some (.slice a1 l1 c1) ∧ X.cell? ⟨p, 1, none⟩ = some x1 ∧ X.cell? ⟨q, 0, none⟩ = some (.slice a2 l2 c2) ∧ X.cell? ⟨q, 1, none⟩ = some x2 := by
  subst hX
  obtain ⟨k0, k1, kB⟩ := end_two hb hp h1 (.slice a1 l1 c1) x1
  have h3 := box_set2 h2 (fun e => hne e.symm) (.slice a1 l1 c1) x1
  obtain ⟨k2, k3, kC⟩ := end_two kB hq h3 (.slice a2 l2 c2) x2
  exact ⟨(hx.box2 h1 (by decide) _ _).box2 h3 (by decide) _ _, (hy.box2 h1 (by decide) _ _).box2 h3 (by decide) _ _, kC, two_keep0 k0 hne _ _, two_keep0 k1 hne _ _, k2, k3⟩
set_option maxHeartbeats 2000000 in
theorem ncut_walk (w : World) (aa ab : Option Addr) (la ca lb cb m n K : Nat) (b b' : Bool) (hK : K ≤ 400000000) (na0 : NatIs w (.agg #[.slice aa la ca]) m K) (nb0 : NatIs w (.agg #[.slice ab lb cb]) n K) (h0 : n ≠ 0) :
    Calls Tryz.prog 199 #[.agg #[.slice aa la ca, .bool b], .agg #[.slice ab lb cb, .bool b']] w fun e w' => (∃ q r, e = .returned (.tuple #[q, r]) ∧ NumIs w' q (sgn (b != b') (m / n)) K ∧ NumIs w' r (sgn b (m % n)) K) ∧ Below w.heap.size w w' := by
  obtain ⟨hB, hx, hz, hy, hy', s4⟩ := boxed4 w (Obj.cells #[.slice aa la ca, .bool b] 71) (Obj.cells #[.slice ab lb cb, .bool b'] 71) (Obj.cells #[.slice none 0 0, .bool false] 71) (Obj.cells #[.slice none 0 0, .bool false] 71)
  go_enter Tryz.func199, Tryz.ntmps199
  go_wp2_with fail
  generalize (((w.alloc (Obj.cells #[.slice aa la ca, .bool b] 71)).alloc (Obj.cells #[.slice ab lb cb, .bool b'] 71)).alloc (Obj.cells #[.slice none 0 0, .bool false] 71)).alloc (Obj.cells #[.slice none 0 0, .bool false] 71) = W at *
  have t1 := two_cell0 hx
  have t2 := two_cell1 hx
  have t3 := two_cell0 hz
  have t4 := two_cell1 hz
  refine (divmod_any W _ _ m n K K (by omega) (by omega) (na0.below hB) (nb0.below hB) h0).mono ?_
  rintro e w1 ⟨⟨q, r, rfl, nq, nr⟩, hb1⟩
  have hbx := hb1.size
  obtain ⟨aq, lq, cq, rfl⟩ := nq.form
  obtain ⟨ar, lr, cr, rfl⟩ := nr.form
  have X1 := boxed2 hb1 (Obj.cells #[Value.slice aq lq cq] 69) (Obj.cells #[Value.slice ar lr cr] 69)
  have Y1 := boxed2 (Below.refl w1.heap.size w1) (Obj.cells #[Value.slice aq lq cq] 69) (Obj.cells #[Value.slice ar lr cr] 69)
  have k5 := cell_of_one (boxed2_first w1 (Obj.cells #[Value.slice aq lq cq] 69) (Obj.cells #[Value.slice ar lr cr] 69))
  have k6 := cell_of_one (boxed2_second w1 (Obj.cells #[Value.slice aq lq cq] 69) (Obj.cells #[Value.slice ar lr cr] 69))
  have K0 := keepN t1 t2 t3 t4 X1
  have HY := hid (And.intro (box_below X1 hy (by omega)) (box_below X1 hy' (by omega)))
  have nq := nq.below Y1
  have nr := nr.below Y1
  have C1 := chain2 hB X1
  clear X1 Y1 t1 t2 t3 t4 hx hz hy hy' hb1 na0 nb0
  obtain ⟨t1, t2, t3, t4⟩ := K0
  have s1 : w.heap.size + 1 + 1 + 1 < w1.heap.size := by have := hbx; omega
  go_wp2
  generalize (w1.alloc (Obj.cells #[Value.slice aq lq cq] 69)).alloc (Obj.cells #[Value.slice ar lr cr] 69) = X1 at *
  have B0 : Below X1.heap.size X1 X1.drew := (Below.refl _ _).drew
  go_region_held3 (fun w' => w'.cell? ⟨w.heap.size, 1, none⟩ = some (.bool b) ∧ w'.cell? ⟨w.heap.size + 1, 1, none⟩ = some (.bool b') ∧ w'.cell? ⟨w1.heap.size, 0, none⟩ = some (.slice aq lq cq) ∧ w'.cell? ⟨w1.heap.size + 1, 0, none⟩ = some (.slice ar lr cr)) ((first | exact ⟨t2, t4, k5, k6⟩ | exact K1 | exact K2 | exact K3 | exact K4)) (first
    | (have gk := B1; go_at_call 154; refine (signed_any _ b _ _ _ (by omega) (nr.below B1)).mono ?_; rintro e w3 ⟨v2, rfl, n2, hb3⟩; have B2 := chain2 B1 hb3; obtain ⟨p2, l2, c2, rfl, m2⟩ := n2; have m1 := m1.below hb3; have K2 := And.intro (kc B2 t2) (And.intro (kc B2 t4) (And.intro (kc B2 k5) (kc B2 k6))); have y1 := box_below B2 HY.out.1 (lt_of_block HY.out.1); have y2 := box_below B2 HY.out.2 (lt_of_block HY.out.2); have u0 := two_cell0 y1; have u1 := two_cell1 y1; have v0 := two_free (k := 0) y1; have v1 := two_free (k := 1) y1; have z1 := box_set2 y2 (show w.heap.size + 1 + 1 + 1 ≠ w.heap.size + 1 + 1 by omega) (.slice p1 l1 c1) (.bool (decide (sgn (b != b') (m / n) < 0))); have u2 := two_cell0 z1; have u3 := two_cell1 z1; have v2 := two_free (k := 0) z1; have v3 := two_free (k := 1) z1; have K3 := And.intro (two_keep0 K2.1 (show w.heap.size ≠ w.heap.size + 1 + 1 by omega) (.slice p1 l1 c1) (.bool (decide (sgn (b != b') (m / n) < 0)))) (And.intro (two_keep0 K2.2.1 (show w.heap.size + 1 ≠ w.heap.size + 1 + 1 by omega) (.slice p1 l1 c1) (.bool (decide (sgn (b != b') (m / n) < 0)))) (And.intro (two_keep0 K2.2.2.1 (show w1.heap.size ≠ w.heap.size + 1 + 1 by omega) (.slice p1 l1 c1) (.bool (decide (sgn (b != b') (m / n) < 0)))) (two_keep0 K2.2.2.2 (show w1.heap.size + 1 ≠ w.heap.size + 1 + 1 by omega) (.slice p1 l1 c1) (.bool (decide (sgn (b != b') (m / n) < 0)))))); have K4 := And.intro (two_keep0 K3.1 (show w.heap.size ≠ w.heap.size + 1 + 1 + 1 by omega) (.slice p2 l2 c2) (.bool (decide (sgn b (m % n) < 0)))) (And.intro (two_keep0 K3.2.1 (show w.heap.size + 1 ≠ w.heap.size + 1 + 1 + 1 by omega) (.slice p2 l2 c2) (.bool (decide (sgn b (m % n) < 0)))) (And.intro (two_keep0 K3.2.2.1 (show w1.heap.size ≠ w.heap.size + 1 + 1 + 1 by omega) (.slice p2 l2 c2) (.bool (decide (sgn b (m % n) < 0)))) (two_keep0 K3.2.2.2 (show w1.heap.size + 1 ≠ w.heap.size + 1 + 1 + 1 by omega) (.slice p2 l2 c2) (.bool (decide (sgn b (m % n) < 0)))))))
    | (have gk := B0; go_at_call 154; refine (signed_any _ (b != b') _ _ _ (by omega) (nq.below B0)).mono ?_; rintro e w2 ⟨v1, rfl, n1, hb2⟩; have B1 := chain2 B0 hb2; obtain ⟨p1, l1, c1, rfl, m1⟩ := n1; have K1 := And.intro (kc B1 t2) (And.intro (kc B1 t4) (And.intro (kc B1 k5) (kc B1 k6)))))
  obtain ⟨o1, o2, o3, o4, o5, o6, o7⟩ := ndiv_out (chain2 C1 B2) (show w.heap.size ≤ w.heap.size + 1 + 1 by omega) (show w.heap.size ≤ w.heap.size + 1 + 1 + 1 by omega) (by omega) y1 y2 m1 m2 _ rfl (x1 := .bool (decide (sgn (b != b') (m / n) < 0))) (x2 := .bool (decide (sgn b (m % n) < 0)))
  have HO := hid (And.intro o1 (And.intro o2 o3))
  have HC := hid (And.intro o4 (And.intro o5 (And.intro o6 o7)))
  clear o1 o2 o3 o4 o5 o6 o7 y1 y2 z1 u0 u1 u2 u3 v0 v1 v2 v3 K1 K2 K3 K4 m1 m2 t1 t2 t3 t4 k5 k6 hb2 hb3 B1 B2 nq nr
  generalize ((((w3.setCell ⟨w.heap.size + 1 + 1, 0, none⟩ (Value.slice p1 l1 c1)).setCell ⟨w.heap.size + 1 + 1, 1, none⟩ (Value.bool (decide (sgn (b != b') (m / n) < 0)))).setCell ⟨w.heap.size + 1 + 1 + 1, 0, none⟩ (Value.slice p2 l2 c2)).setCell ⟨w.heap.size + 1 + 1 + 1, 1, none⟩ (Value.bool (decide (sgn b (m % n) < 0)))) = X at *
  go_wp2
  exact bodyPost_ret (v := .tuple #[.agg #[.slice p1 l1 c1, .bool (decide (sgn (b != b') (m / n) < 0))], .agg #[.slice p2 l2 c2, .bool (decide (sgn b (m % n) < 0))]]) (by simp [results, Tryz.results199, go_sem, HC.out.1, HC.out.2.1, HC.out.2.2.1, HC.out.2.2.2]) rfl ⟨⟨_, _, rfl, ⟨p1, l1, c1, rfl, HO.out.1⟩, ⟨p2, l2, c2, rfl, HO.out.2.1⟩⟩, HO.out.2.2⟩
/-- cut: quotient cut towards 0, rest of a's sign. -/
theorem ncut_any (w : World) (a b : Value) (x y : Int) (K : Nat) (hK : K ≤ 400000000) (ha : NumIs w a x K) (hb : NumIs w b y K) (h0 : y ≠ 0) :
    Calls Tryz.prog 199 #[a, b] w fun e w' => (∃ q r, e = .returned (.tuple #[q, r]) ∧ NumIs w' q (x.tdiv y) K ∧ NumIs w' r (x.tmod y) K) ∧ Below w.heap.size w w' := by
  obtain ⟨aa, la, ca, rfl, na⟩ := ha
  obtain ⟨ab, lb, cb, rfl, nb⟩ := hb
  rw [← sgn_tdiv, ← sgn_tmod]
  exact ncut_walk w aa ab la ca lb cb _ _ K _ _ hK na nb (by omega)
end Go.Proofs.YtcdkoadobdgbhaaGreatDoor
