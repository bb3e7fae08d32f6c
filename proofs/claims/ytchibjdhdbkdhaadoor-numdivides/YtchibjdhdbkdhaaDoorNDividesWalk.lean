/- NumDivides: what the call answers. -/
import Derived.Test.YtchibjdhdbkdhaaDoorNNumber
import Derived.Test.YtchibjdhdbkdhaaDoorNLong
import Derived.Test.YtchibjdhdbkdhaaDoorNText
import Derived.Test.YtchibjdhdbkdhaaDoorNQuo
import Derived.Test.YtchibjdhdbkdhaaDoorSText
import Derived.Test.YtchibjdhdbkdhaaDoorSFloor
import Derived.Test.YtchibjdhdbkdhaaDoorSZero
namespace Go.Proofs.YtchibjdhdbkdhaaDoor
open Go.RowKit
set_option linter.unusedVariables false
set_option maxRecDepth 100000
set_option linter.unusedSimpArgs false
attribute [local go_sem ↓] Go.wp_at_zero Go.wp_at_succ

theorem keepDV {W X : World} {p1 p2 p3 p4 p5 p6 p7 p8 : Nat} {x1 y1 x2 y2 x3 y3 x4 y4 x5 y5 x6 y6 x7 y7 x8 y8 : Value} (h1 : W.cell? ⟨p1, 0, none⟩ = some x1) (k1 : W.cell? ⟨p1, 1, none⟩ = some y1) (h2 : W.cell? ⟨p2, 0, none⟩ = some x2) (k2 : W.cell? ⟨p2, 1, none⟩ = some y2) (h3 : W.cell? ⟨p3, 0, none⟩ = some x3) (k3 : W.cell? ⟨p3, 1, none⟩ = some y3) (h4 : W.cell? ⟨p4, 0, none⟩ = some x4) (k4 : W.cell? ⟨p4, 1, none⟩ = some y4) (h5 : W.cell? ⟨p5, 0, none⟩ = some x5) (k5 : W.cell? ⟨p5, 1, none⟩ = some y5) (h6 : W.cell? ⟨p6, 0, none⟩ = some x6) (k6 : W.cell? ⟨p6, 1, none⟩ = some y6) (h7 : W.cell? ⟨p7, 0, none⟩ = some x7) (k7 : W.cell? ⟨p7, 1, none⟩ = some y7) (h8 : W.cell? ⟨p8, 0, none⟩ = some x8) (k8 : W.cell? ⟨p8, 1, none⟩ = some y8) (h : Below W.heap.size W X) :
    X.cell? ⟨p1, 0, none⟩ = some x1 ∧ X.cell? ⟨p1, 1, none⟩ = some y1 ∧ X.cell? ⟨p2, 0, none⟩ = some x2 ∧ X.cell? ⟨p2, 1, none⟩ = some y2 ∧ X.cell? ⟨p3, 0, none⟩ = some x3 ∧ X.cell? ⟨p3, 1, none⟩ = some y3 ∧ X.cell? ⟨p4, 0, none⟩ = some x4 ∧ X.cell? ⟨p4, 1, none⟩ = some y4 ∧ X.cell? ⟨p5, 0, none⟩ = some x5 ∧ X.cell? ⟨p5, 1, none⟩ = some y5 ∧ X.cell? ⟨p6, 0, none⟩ = some x6 ∧ X.cell? ⟨p6, 1, none⟩ = some y6 ∧ X.cell? ⟨p7, 0, none⟩ = some x7 ∧ X.cell? ⟨p7, 1, none⟩ = some y7 ∧ X.cell? ⟨p8, 0, none⟩ = some x8 ∧ X.cell? ⟨p8, 1, none⟩ = some y8 := ⟨kc h h1, kc h k1, kc h h2, kc h k2, kc h h3, kc h k3, kc h h4, kc h k4, kc h h5, kc h k5, kc h h6, kc h k6, kc h h7, kc h k7, kc h h8, kc h k8⟩
def divEZ (y : Int) : Int := if y = 0 then 12 else 0
def tqZ (x y : Int) : Int := if y = 0 then 0 else x.tdiv y
def trZ (x y : Int) : Int := if y = 0 then 0 else x.tmod y
def fqZ (x y : Int) : Int := if y = 0 then 0 else x.fdiv y
def frZ (x y : Int) : Int := if y = 0 then 0 else x.fmod y
theorem nquo_both (w : World) (a b : Value) (x y : Int) (ha : NumIs w a x 60) (hb : NumIs w b y 60) :
    Calls Tryd.prog 20 #[a, b] w fun e w' => ∃ a1 l1 c1 d1 a2 l2 c2 d2, e = .returned (.tuple #[.agg #[.slice a1 l1 c1, .bool d1], .agg #[.slice a2 l2 c2, .bool d2], .int .i64 (divEZ y)]) ∧ NumIs w' (.agg #[.slice a1 l1 c1, .bool d1]) (tqZ x y) 64 ∧ NumIs w' (.agg #[.slice a2 l2 c2, .bool d2]) (trZ x y) 64 ∧ Below w.heap.size w w' := by
  by_cases h : y = 0
  · subst h
    refine (nquo_zero w a b x 60 (by omega) ha hb).mono ?_
    rintro e w' ⟨rfl, hw⟩
    exact ⟨none, 0, 0, false, none, 0, 0, false, rfl, ⟨none, 0, 0, by simp [tqZ], by simpa [tqZ] using (nat_zero w').mono (Nat.zero_le 64)⟩, ⟨none, 0, 0, by simp [trZ], by simpa [trZ] using (nat_zero w').mono (Nat.zero_le 64)⟩, hw⟩
  · refine (nquo_any w a b x y 60 (by omega) ha hb h).mono ?_
    rintro e w' ⟨⟨q, r, rfl, h1, h2⟩, hw⟩
    have h1' := h1
    have h2' := h2
    obtain ⟨a1, l1, c1, rfl, _⟩ := h1'
    obtain ⟨a2, l2, c2, rfl, _⟩ := h2'
    exact ⟨a1, l1, c1, decide (x.tdiv y < 0), a2, l2, c2, decide (x.tmod y < 0), by simp [divEZ, h], by simpa [tqZ, h] using h1.mono (show _ ≤ 64 by omega), by simpa [trZ, h] using h2.mono (show _ ≤ 64 by omega), hw⟩
theorem squo_both (w : World) (a b : Value) (x y : Int) (ha : RNumIs w a x 60) (hb : RNumIs w b y 60) :
    Calls Tryd.prog 21 #[a, b] w fun e w' => ∃ a1 l1 c1 d1 a2 l2 c2 d2, e = .returned (.tuple #[.agg #[.bool d1, .slice a1 l1 c1], .agg #[.bool d2, .slice a2 l2 c2], .int .i64 (divEZ y)]) ∧ RNumIs w' (.agg #[.bool d1, .slice a1 l1 c1]) (tqZ x y) 64 ∧ RNumIs w' (.agg #[.bool d2, .slice a2 l2 c2]) (trZ x y) 64 ∧ Below w.heap.size w w' := by
  by_cases h : y = 0
  · subst h
    refine (squo_zero w a b x 60 (by omega) ha hb).mono ?_
    rintro e w' ⟨rfl, hw⟩
    exact ⟨none, 0, 0, false, none, 0, 0, false, rfl, ⟨none, 0, 0, by simp [tqZ], by simpa [tqZ] using (ref_zero w').mono (Nat.zero_le 64)⟩, ⟨none, 0, 0, by simp [trZ], by simpa [trZ] using (ref_zero w').mono (Nat.zero_le 64)⟩, hw⟩
  · refine (squo_any w a b x y 60 (by omega) ha hb h).mono ?_
    rintro e w' ⟨⟨q, r, rfl, h1, h2⟩, hw⟩
    have h1' := h1
    have h2' := h2
    obtain ⟨a1, l1, c1, rfl, _⟩ := h1'
    obtain ⟨a2, l2, c2, rfl, _⟩ := h2'
    exact ⟨a1, l1, c1, decide (x.tdiv y < 0), a2, l2, c2, decide (x.tmod y < 0), by simp [divEZ, h], by simpa [tqZ, h] using h1.mono (show _ ≤ 64 by omega), by simpa [trZ, h] using h2.mono (show _ ≤ 64 by omega), hw⟩
theorem ndm_both (w : World) (a b : Value) (x y : Int) (ha : NumIs w a x 60) (hb : NumIs w b y 60) :
    Calls Tryd.prog 22 #[a, b] w fun e w' => ∃ a1 l1 c1 d1 a2 l2 c2 d2, e = .returned (.tuple #[.agg #[.slice a1 l1 c1, .bool d1], .agg #[.slice a2 l2 c2, .bool d2], .int .i64 (divEZ y)]) ∧ NumIs w' (.agg #[.slice a1 l1 c1, .bool d1]) (fqZ x y) 64 ∧ NumIs w' (.agg #[.slice a2 l2 c2, .bool d2]) (frZ x y) 64 ∧ Below w.heap.size w w' := by
  by_cases h : y = 0
  · subst h
    refine (ndm_zero w a b x 60 (by omega) ha hb).mono ?_
    rintro e w' ⟨rfl, hw⟩
    exact ⟨none, 0, 0, false, none, 0, 0, false, rfl, ⟨none, 0, 0, by simp [fqZ], by simpa [fqZ] using (nat_zero w').mono (Nat.zero_le 64)⟩, ⟨none, 0, 0, by simp [frZ], by simpa [frZ] using (nat_zero w').mono (Nat.zero_le 64)⟩, hw⟩
  · refine (ndm_any w a b x y 60 (by omega) ha hb h).mono ?_
    rintro e w' ⟨⟨q, r, rfl, h1, h2⟩, hw⟩
    have h1' := h1
    have h2' := h2
    obtain ⟨a1, l1, c1, rfl, _⟩ := h1'
    obtain ⟨a2, l2, c2, rfl, _⟩ := h2'
    exact ⟨a1, l1, c1, decide (x.fdiv y < 0), a2, l2, c2, decide (x.fmod y < 0), by simp [divEZ, h], by simpa [fqZ, h] using h1.mono (show _ ≤ 64 by omega), by simpa [frZ, h] using h2.mono (show _ ≤ 64 by omega), hw⟩
theorem sdm_both (w : World) (a b : Value) (x y : Int) (ha : RNumIs w a x 60) (hb : RNumIs w b y 60) :
    Calls Tryd.prog 23 #[a, b] w fun e w' => ∃ a1 l1 c1 d1 a2 l2 c2 d2, e = .returned (.tuple #[.agg #[.bool d1, .slice a1 l1 c1], .agg #[.bool d2, .slice a2 l2 c2], .int .i64 (divEZ y)]) ∧ RNumIs w' (.agg #[.bool d1, .slice a1 l1 c1]) (fqZ x y) 64 ∧ RNumIs w' (.agg #[.bool d2, .slice a2 l2 c2]) (frZ x y) 64 ∧ Below w.heap.size w w' := by
  by_cases h : y = 0
  · subst h
    refine (sdm_zero w a b x 60 (by omega) ha hb).mono ?_
    rintro e w' ⟨rfl, hw⟩
    exact ⟨none, 0, 0, false, none, 0, 0, false, rfl, ⟨none, 0, 0, by simp [fqZ], by simpa [fqZ] using (ref_zero w').mono (Nat.zero_le 64)⟩, ⟨none, 0, 0, by simp [frZ], by simpa [frZ] using (ref_zero w').mono (Nat.zero_le 64)⟩, hw⟩
  · refine (sdm_any w a b x y 60 (by omega) ha hb h).mono ?_
    rintro e w' ⟨⟨q, r, rfl, h1, h2⟩, hw⟩
    have h1' := h1
    have h2' := h2
    obtain ⟨a1, l1, c1, rfl, _⟩ := h1'
    obtain ⟨a2, l2, c2, rfl, _⟩ := h2'
    exact ⟨a1, l1, c1, decide (x.fdiv y < 0), a2, l2, c2, decide (x.fmod y < 0), by simp [divEZ, h], by simpa [fqZ, h] using h1.mono (show _ ≤ 64 by omega), by simpa [frZ, h] using h2.mono (show _ ≤ 64 by omega), hw⟩
set_option maxRecDepth 100000 in
set_option maxHeartbeats 8000000 in
theorem ndivides_any (x y : ByteArray) (w : World) (htab : Tab w) :
    Calls Tryd.prog 4 #[.string x, .string y] w fun e w' => e = .returned (.bool true) ∧ Below w.heap.size w w' := by
  have hb0 : Below w.heap.size w (w.alloc (Obj.cells #[.string x, .string y] 9)) := (Below.refl _ _).alloc (Nat.le_refl _) _
  go_enter Tryd.func4, Tryd.ntmps4
  go_wp2_with fail
  refine (long2_any _ w.heap.size 2 [x, y] (by omega) ?_).mono ?_
  · intro k hk
    match k, hk with
    | 0, _ => simp [go_sem, sg]
    | 1, _ => simp [go_sem, sg]
  rintro e w1 ⟨h | ⟨h, hsz⟩, rfl⟩
  · rw [h]
    go_wp2
    go_ret
    exact ⟨rfl, hb0⟩
  rw [h]
  have hx := hsz 0 (by omega)
  have hy := hsz 1 (by omega)
  simp only [sg, List.getD_cons_zero, List.getD_cons_succ] at hx hy
  clear hsz h
  generalize w.alloc (Obj.cells #[.string x, .string y] 9) = w1 at *
  go_wp2_with fail
  refine (number2_any x _ (by omega)).mono ?_
  rintro e u1 ⟨⟨aa, la, ca, ar1, lr1, cr1, n1, b1, rfl, f1⟩, hb1⟩
  have F1 := hid f1
  clear f1
  go_wp2_with fail
  refine (number2_any y _ (by omega)).mono ?_
  rintro e u2 ⟨⟨ab, lb, cb, ar2, lr2, cr2, n2, b2, rfl, f2⟩, hb2⟩
  have F2 := hid f2
  clear f2
  have c1 := boxed2 hb1 (Obj.cells #[Value.slice aa la ca, Value.bool n1] 26) (Obj.cells #[Value.bool n1, Value.slice ar1 lr1 cr1] 31)
  have c2 := boxed2 hb2 (Obj.cells #[Value.slice ab lb cb, Value.bool n2] 26) (Obj.cells #[Value.bool n2, Value.slice ar2 lr2 cr2] 31)
  have d1 := boxed2 (Below.refl u1.heap.size u1) (Obj.cells #[Value.slice aa la ca, Value.bool n1] 26) (Obj.cells #[Value.bool n1, Value.slice ar1 lr1 cr1] 31)
  have d2 := boxed2 (Below.refl u2.heap.size u2) (Obj.cells #[Value.slice ab lb cb, Value.bool n2] 26) (Obj.cells #[Value.bool n2, Value.slice ar2 lr2 cr2] 31)
  have p1 := boxed2_first u1 (Obj.cells #[Value.slice aa la ca, Value.bool n1] 26) (Obj.cells #[Value.bool n1, Value.slice ar1 lr1 cr1] 31)
  have r1 := boxed2_second u1 (Obj.cells #[Value.slice aa la ca, Value.bool n1] 26) (Obj.cells #[Value.bool n1, Value.slice ar1 lr1 cr1] 31)
  have p2 := boxed2_first u2 (Obj.cells #[Value.slice ab lb cb, Value.bool n2] 26) (Obj.cells #[Value.bool n2, Value.slice ar2 lr2 cr2] 31)
  have r2 := boxed2_second u2 (Obj.cells #[Value.slice ab lb cb, Value.bool n2] 26) (Obj.cells #[Value.bool n2, Value.slice ar2 lr2 cr2] 31)
  clear hb1
  generalize (u1.alloc (Obj.cells #[Value.slice aa la ca, Value.bool n1] 26)).alloc (Obj.cells #[Value.bool n1, Value.slice ar1 lr1 cr1] 31) = W1 at *
  have g1 : Below w.heap.size w ((u2.alloc (Obj.cells #[Value.slice ab lb cb, Value.bool n2] 26)).alloc (Obj.cells #[Value.bool n2, Value.slice ar2 lr2 cr2] 31)) := chain2 (chain2 hb0 c1) c2
  have q1 := (box_below c2 p1 (lt_of_block p1))
  have s1 := (box_below c2 r1 (lt_of_block r1))
  have q2 := p2
  have s2 := r2
  have hall : b1 = true ∧ b2 = true ∨ b1 = false ∨ b2 = false := by
    cases b1 <;> cases b2 <;> simp
  rcases hall with ⟨rfl, rfl⟩ | hall
  · obtain ⟨X, tx, e1, na1, ra1⟩ := F1.out rfl
    obtain ⟨Y, ty, e2, na2, ra2⟩ := F2.out rfl
    have Na : NumIs ((u2.alloc (Obj.cells #[Value.slice ab lb cb, Value.bool n2] 26)).alloc (Obj.cells #[Value.bool n2, Value.slice ar2 lr2 cr2] 31)) (Value.agg #[Value.slice aa la ca, Value.bool n1]) X 60 := ⟨_, _, _, by rw [e1], ((na1.below d1).below c2).mono (show _ ≤ 60 by omega)⟩
    have Ma : RNumIs ((u2.alloc (Obj.cells #[Value.slice ab lb cb, Value.bool n2] 26)).alloc (Obj.cells #[Value.bool n2, Value.slice ar2 lr2 cr2] 31)) (Value.agg #[Value.bool n1, Value.slice ar1 lr1 cr1]) X 60 := ⟨_, _, _, by rw [e1], ((ra1.below d1).below c2).mono (show _ ≤ 60 by omega)⟩
    have TX := hid tx
    have H1 := hid e1
    have Nb : NumIs ((u2.alloc (Obj.cells #[Value.slice ab lb cb, Value.bool n2] 26)).alloc (Obj.cells #[Value.bool n2, Value.slice ar2 lr2 cr2] 31)) (Value.agg #[Value.slice ab lb cb, Value.bool n2]) Y 60 := ⟨_, _, _, by rw [e2], (na2.below d2).mono (show _ ≤ 60 by omega)⟩
    have Mb : RNumIs ((u2.alloc (Obj.cells #[Value.slice ab lb cb, Value.bool n2] 26)).alloc (Obj.cells #[Value.bool n2, Value.slice ar2 lr2 cr2] 31)) (Value.agg #[Value.bool n2, Value.slice ar2 lr2 cr2]) Y 60 := ⟨_, _, _, by rw [e2], (ra2.below d2).mono (show _ ≤ 60 by omega)⟩
    have TY := hid ty
    have H2 := hid e2
    have v1 := box_below hb2 p1 (lt_of_block p1)
    have m1 := two_cell0 v1
    have o1 := two_cell1 v1
    have l1 := lt_of_block v1
    clear v1
    clear F1 F2 c1 c2 d1 d2 hb2 e1 e2 na1 na2 ra1 ra2 tx ty p1 p2 r1 r2
    have t1 := two_cell0 q1
    have t2 := two_cell1 q1
    have t3 := two_cell0 q2
    have t4 := two_cell1 q2
    go_wp2_with fail
    generalize ((u2.alloc (Obj.cells #[Value.slice ab lb cb, Value.bool n2] 26)).alloc (Obj.cells #[Value.bool n2, Value.slice ar2 lr2 cr2] 31)) = W2 at *
    obtain ⟨E, hE⟩ : ∃ E, divEZ Y = E := ⟨_, rfl⟩
    have HE := hid hE
    clear hE
    refine (nquo_both _ _ _ X Y Na Nb).mono ?_
    rintro e w3 ⟨aq, lq, cq, dq, am, lm, cm, dm, rfl, Nq, Nm, hb3⟩
    rw [HE.out]
    have X3 := boxed2 hb3 (Obj.cells #[Value.slice aq lq cq, Value.bool dq] 26) (Obj.cells #[Value.slice am lm cm, Value.bool dm] 26)
    have Y3 := boxed2 (Below.refl w3.heap.size w3) (Obj.cells #[Value.slice aq lq cq, Value.bool dq] 26) (Obj.cells #[Value.slice am lm cm, Value.bool dm] 26)
    have zq := boxed2_first w3 (Obj.cells #[Value.slice aq lq cq, Value.bool dq] 26) (Obj.cells #[Value.slice am lm cm, Value.bool dm] 26)
    have zm := boxed2_second w3 (Obj.cells #[Value.slice aq lq cq, Value.bool dq] 26) (Obj.cells #[Value.slice am lm cm, Value.bool dm] 26)
    have C3 := chain2 g1 X3
    have q1 := box_below X3 q1 (lt_of_block q1)
    have q2 := box_below X3 q2 (lt_of_block q2)
    have s1 := box_below X3 s1 (lt_of_block s1)
    have s2 := box_below X3 s2 (lt_of_block s2)
    have Na := Na.below X3
    have Nb := Nb.below X3
    have Ma := Ma.below X3
    have Mb := Mb.below X3
    have Nq := Nq.below Y3
    have Nm := Nm.below Y3
    clear t1 t2 t3 t4 X3 Y3 hb3 m1 o1
    have t1 := two_cell0 s1
    have t2 := two_cell1 s1
    have t3 := two_cell0 s2
    have t4 := two_cell1 s2
    go_wp2_with fail
    generalize (w3.alloc (Obj.cells #[Value.slice aq lq cq, Value.bool dq] 26)).alloc (Obj.cells #[Value.slice am lm cm, Value.bool dm] 26) = W3 at *
    refine (squo_both _ _ _ X Y Ma Mb).mono ?_
    rintro e w4 ⟨ap, lp, cp, dp, an, ln, cn, dn, rfl, Mq, Mm, hb4⟩
    rw [HE.out]
    have X4 := boxed2 hb4 (Obj.cells #[Value.bool dp, Value.slice ap lp cp] 31) (Obj.cells #[Value.bool dn, Value.slice an ln cn] 31)
    have Y4 := boxed2 (Below.refl w4.heap.size w4) (Obj.cells #[Value.bool dp, Value.slice ap lp cp] 31) (Obj.cells #[Value.bool dn, Value.slice an ln cn] 31)
    have zp := boxed2_first w4 (Obj.cells #[Value.bool dp, Value.slice ap lp cp] 31) (Obj.cells #[Value.bool dn, Value.slice an ln cn] 31)
    have zn := boxed2_second w4 (Obj.cells #[Value.bool dp, Value.slice ap lp cp] 31) (Obj.cells #[Value.bool dn, Value.slice an ln cn] 31)
    have C4 := chain2 C3 X4
    have q1 := box_below X4 q1 (lt_of_block q1)
    have q2 := box_below X4 q2 (lt_of_block q2)
    have s1 := box_below X4 s1 (lt_of_block s1)
    have s2 := box_below X4 s2 (lt_of_block s2)
    have zq := box_below X4 zq (lt_of_block zq)
    have zm := box_below X4 zm (lt_of_block zm)
    have Na := Na.below X4
    have Nb := Nb.below X4
    have Ma := Ma.below X4
    have Mb := Mb.below X4
    have Nq := Nq.below X4
    have Nm := Nm.below X4
    have Mq := Mq.below Y4
    have Mm := Mm.below Y4
    clear t1 t2 t3 t4 X4 Y4 hb4
    have t1 := two_cell0 q1
    have t2 := two_cell1 q1
    have t3 := two_cell0 q2
    have t4 := two_cell1 q2
    go_wp2_with fail
    generalize (w4.alloc (Obj.cells #[Value.bool dp, Value.slice ap lp cp] 31)).alloc (Obj.cells #[Value.bool dn, Value.slice an ln cn] 31) = W4 at *
    refine (ndm_both _ _ _ X Y Na Nb).mono ?_
    rintro e w5 ⟨au, lu, cu, du, av, lv, cv, dv, rfl, Nu, Nv, hb5⟩
    rw [HE.out]
    have X5 := boxed2 hb5 (Obj.cells #[Value.slice au lu cu, Value.bool du] 26) (Obj.cells #[Value.slice av lv cv, Value.bool dv] 26)
    have Y5 := boxed2 (Below.refl w5.heap.size w5) (Obj.cells #[Value.slice au lu cu, Value.bool du] 26) (Obj.cells #[Value.slice av lv cv, Value.bool dv] 26)
    have zu := boxed2_first w5 (Obj.cells #[Value.slice au lu cu, Value.bool du] 26) (Obj.cells #[Value.slice av lv cv, Value.bool dv] 26)
    have zv := boxed2_second w5 (Obj.cells #[Value.slice au lu cu, Value.bool du] 26) (Obj.cells #[Value.slice av lv cv, Value.bool dv] 26)
    have C5 := chain2 C4 X5
    have s1 := box_below X5 s1 (lt_of_block s1)
    have s2 := box_below X5 s2 (lt_of_block s2)
    have zq := box_below X5 zq (lt_of_block zq)
    have zm := box_below X5 zm (lt_of_block zm)
    have zp := box_below X5 zp (lt_of_block zp)
    have zn := box_below X5 zn (lt_of_block zn)
    have Ma := Ma.below X5
    have Mb := Mb.below X5
    have Nq := Nq.below X5
    have Nm := Nm.below X5
    have Mq := Mq.below X5
    have Mm := Mm.below X5
    have Nu := Nu.below Y5
    have Nv := Nv.below Y5
    clear t1 t2 t3 t4 X5 Y5 hb5
    have t1 := two_cell0 s1
    have t2 := two_cell1 s1
    have t3 := two_cell0 s2
    have t4 := two_cell1 s2
    go_wp2_with fail
    generalize (w5.alloc (Obj.cells #[Value.slice au lu cu, Value.bool du] 26)).alloc (Obj.cells #[Value.slice av lv cv, Value.bool dv] 26) = W5 at *
    refine (sdm_both _ _ _ X Y Ma Mb).mono ?_
    rintro e w6 ⟨aw, lw, cw, dw, az, lz, cz, dz, rfl, Mu, Mv, hb6⟩
    rw [HE.out]
    have X6 := boxed2 hb6 (Obj.cells #[Value.bool dw, Value.slice aw lw cw] 31) (Obj.cells #[Value.bool dz, Value.slice az lz cz] 31)
    have Y6 := boxed2 (Below.refl w6.heap.size w6) (Obj.cells #[Value.bool dw, Value.slice aw lw cw] 31) (Obj.cells #[Value.bool dz, Value.slice az lz cz] 31)
    have zw := boxed2_first w6 (Obj.cells #[Value.bool dw, Value.slice aw lw cw] 31) (Obj.cells #[Value.bool dz, Value.slice az lz cz] 31)
    have zz := boxed2_second w6 (Obj.cells #[Value.bool dw, Value.slice aw lw cw] 31) (Obj.cells #[Value.bool dz, Value.slice az lz cz] 31)
    have C6 := chain2 C5 X6
    have zq := box_below X6 zq (lt_of_block zq)
    have zm := box_below X6 zm (lt_of_block zm)
    have zp := box_below X6 zp (lt_of_block zp)
    have zn := box_below X6 zn (lt_of_block zn)
    have zu := box_below X6 zu (lt_of_block zu)
    have zv := box_below X6 zv (lt_of_block zv)
    have Nq := Nq.below X6
    have Nm := Nm.below X6
    have Mq := Mq.below X6
    have Mm := Mm.below X6
    have Nu := Nu.below X6
    have Nv := Nv.below X6
    have Mu := Mu.below Y6
    have Mv := Mv.below Y6
    clear t1 t2 t3 t4 X6 Y6 hb6
    have t1 := two_cell0 zq
    have t2 := two_cell1 zq
    have t3 := two_cell0 zm
    have t4 := two_cell1 zm
    have t5 := two_cell0 zp
    have t6 := two_cell1 zp
    have t7 := two_cell0 zn
    have t8 := two_cell1 zn
    have t9 := two_cell0 zu
    have t10 := two_cell1 zu
    have t11 := two_cell0 zv
    have t12 := two_cell1 zv
    have t13 := two_cell0 zw
    have t14 := two_cell1 zw
    have t15 := two_cell0 zz
    have t16 := two_cell1 zz
    clear q1 q2 s1 s2 zq zm zp zn zu zv zw zz
    have tabE := htab.below C6
    generalize tqZ X Y = Q1 at *
    generalize trZ X Y = Q2 at *
    generalize fqZ X Y = Q3 at *
    generalize frZ X Y = Q4 at *
    go_wp2
    generalize (w6.alloc (Obj.cells #[Value.bool dw, Value.slice aw lw cw] 31)).alloc (Obj.cells #[Value.bool dz, Value.slice az lz cz] 31) = X0 at *
    have B0 : Below X0.heap.size X0 X0.drew := (Below.refl _ _).drew
    try simp only [List.append_eq, List.cons_append, List.nil_append]
    go_region_held3 (fun w' => w'.cell? ⟨w3.heap.size, 0, none⟩ = some (Value.slice aq lq cq) ∧ w'.cell? ⟨w3.heap.size, 1, none⟩ = some (Value.bool dq) ∧ w'.cell? ⟨w3.heap.size + 1, 0, none⟩ = some (Value.slice am lm cm) ∧ w'.cell? ⟨w3.heap.size + 1, 1, none⟩ = some (Value.bool dm) ∧ w'.cell? ⟨w4.heap.size, 0, none⟩ = some (Value.bool dp) ∧ w'.cell? ⟨w4.heap.size, 1, none⟩ = some (Value.slice ap lp cp) ∧ w'.cell? ⟨w4.heap.size + 1, 0, none⟩ = some (Value.bool dn) ∧ w'.cell? ⟨w4.heap.size + 1, 1, none⟩ = some (Value.slice an ln cn) ∧ w'.cell? ⟨w5.heap.size, 0, none⟩ = some (Value.slice au lu cu) ∧ w'.cell? ⟨w5.heap.size, 1, none⟩ = some (Value.bool du) ∧ w'.cell? ⟨w5.heap.size + 1, 0, none⟩ = some (Value.slice av lv cv) ∧ w'.cell? ⟨w5.heap.size + 1, 1, none⟩ = some (Value.bool dv) ∧ w'.cell? ⟨w6.heap.size, 0, none⟩ = some (Value.bool dw) ∧ w'.cell? ⟨w6.heap.size, 1, none⟩ = some (Value.slice aw lw cw) ∧ w'.cell? ⟨w6.heap.size + 1, 0, none⟩ = some (Value.bool dz) ∧ w'.cell? ⟨w6.heap.size + 1, 1, none⟩ = some (Value.slice az lz cz)) ((refine keepDV t1 t2 t3 t4 t5 t6 t7 t8 t9 t10 t11 t12 t13 t14 t15 t16 ?_; first | exact B0 | exact B1 | exact B2 | exact B3 | exact B4 | exact B5 | exact B6 | exact B7 | exact B8)) (first
      | (have gk := B7; go_at_call 10; refine (stext_any _ _ _ _ (by omega) (Mv.below B7)).mono ?_; rintro e w108 ⟨⟨s108, rfl, h108⟩, hb108⟩; have B8 := chain2 B7 hb108; rw [h108.inj h107])
      | (have gk := B6; go_at_call 8; refine (ntext_any _ _ _ _ (by omega) (Nv.below B6) (tabE.below B6)).mono ?_; rintro e w107 ⟨⟨s107, rfl, h107⟩, hb107⟩; have B7 := chain2 B6 hb107)
      | (have gk := B5; go_at_call 10; refine (stext_any _ _ _ _ (by omega) (Mu.below B5)).mono ?_; rintro e w106 ⟨⟨s106, rfl, h106⟩, hb106⟩; have B6 := chain2 B5 hb106; rw [h106.inj h105])
      | (have gk := B4; go_at_call 8; refine (ntext_any _ _ _ _ (by omega) (Nu.below B4) (tabE.below B4)).mono ?_; rintro e w105 ⟨⟨s105, rfl, h105⟩, hb105⟩; have B5 := chain2 B4 hb105)
      | (have gk := B3; go_at_call 10; refine (stext_any _ _ _ _ (by omega) (Mm.below B3)).mono ?_; rintro e w104 ⟨⟨s104, rfl, h104⟩, hb104⟩; have B4 := chain2 B3 hb104; rw [h104.inj h103])
      | (have gk := B2; go_at_call 8; refine (ntext_any _ _ _ _ (by omega) (Nm.below B2) (tabE.below B2)).mono ?_; rintro e w103 ⟨⟨s103, rfl, h103⟩, hb103⟩; have B3 := chain2 B2 hb103)
      | (have gk := B1; go_at_call 10; refine (stext_any _ _ _ _ (by omega) (Mq.below B1)).mono ?_; rintro e w102 ⟨⟨s102, rfl, h102⟩, hb102⟩; have B2 := chain2 B1 hb102; rw [h102.inj h101])
      | (have gk := B0; go_at_call 8; refine (ntext_any _ _ _ _ (by omega) (Nq.below B0) (tabE.below B0)).mono ?_; rintro e w101 ⟨⟨s101, rfl, h101⟩, hb101⟩; have B1 := chain2 B0 hb101))
    all_goals
      have g9 := chain2 C6 B8
      clear B0 B1 B2 B3 B4 B5 B6 B7 B8 hb101 hb102 hb103 hb104 hb105 hb106 hb107 hb108
      go_wp2
      go_ret
      exact ⟨rfl, g9⟩
  · have hb : b1 = false ∨ b1 = true ∧ b2 = false := by
      cases b1 <;> cases b2 <;> simp at hall ⊢
    clear hall F1 F2 c1 d1 p1 r1 q1 s1 c2 d2 p2 r2 q2 s2 hb2
    rcases hb with rfl | ⟨rfl, rfl⟩
    all_goals
      go_wp2
      go_ret
      exact ⟨rfl, g1⟩
end Go.Proofs.YtchibjdhdbkdhaaDoor
