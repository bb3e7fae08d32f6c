/- PNumber, PNum, PSmall, POps, PLevel, PTOps, CRat. -/
import Derived.Test.YtcdkoadobdgbhaaGreatDoorZPTParse
import Derived.Test.YtcdkoadobdgbhaaGreatDoorPk27
import Derived.Test.YtcdkoadobdgbhaaGreatDoorPk39
import Derived.Test.YtcdkoadobdgbhaaGreatDoorPk34
import Derived.Test.YtcdkoadobdgbhaaGreatDoorPk38
/- Fractions of a law: number; Num. -/
namespace Go.Proofs.YtcdkoadobdgbhaaGreatDoor
open Go.RowKit
set_option linter.unusedVariables false
set_option maxRecDepth 100000
set_option linter.unusedSimpArgs false
attribute [local go_sem ↓] Go.wp_at_zero Go.wp_at_succ

theorem can_uniq {s : ByteArray} {n d n' d' : Int} (h : Can s n d) (k : Can s n' d') : n = n' ∧ d = d' := by
  obtain ⟨p, hc, _⟩ := cut_bar s
  by_cases hp : p < s.size
  · have a := (can_parts hc hp).1 h
    have b := (can_parts hc hp).1 k
    exact ⟨a.2.2.2.1.uniq b.2.2.2.1, a.2.2.2.2.uniq b.2.2.2.2⟩
  · have e : p = s.size := by have := hc.le; omega
    subst e
    have a := (can_whole hc).1 h
    have b := (can_whole hc).1 k
    exact ⟨a.2.uniq b.2, a.1.trans b.1.symm⟩
theorem num_keep {w w' : World} {r : Nat} {v : Value} {z : Int} {K : Nat} {c : Array Value} {t : TypeId} {fz : Nat × Nat} (h : NumIs w v z K) (hr : w.heap[r]? = some (.cells c t fz)) (ht : t ≠ 213) (hk : ∀ b, b ≠ r → w'.heap[b]? = w.heap[b]?) : NumIs w' v z K := by
  obtain ⟨ao, l, cp, h1, sl, L, g1, g2, g3⟩ := h
  refine ⟨ao, l, cp, h1, sl, L, g1, ⟨g2.1, ?_⟩, g3⟩
  rcases g2.2 with e | ⟨g, cap, cur, hv, hb, hh, rr⟩
  · exact Or.inl e
  · refine Or.inr ⟨g, cap, cur, hv, hb, (hk g ?_).trans hh, rr⟩
    intro e
    rw [e, hr] at hh
    simp only [Option.some.injEq, Obj.cells.injEq] at hh
    exact ht hh.2.1
theorem rnum_keep {w w' : World} {r : Nat} {v : Value} {z : Int} {K : Nat} {c : Array Value} {t : TypeId} {fz : Nat × Nat} (h : RNumIs w v z K) (hr : w.heap[r]? = some (.cells c t fz)) (ht : t ≠ 3) (hk : ∀ b, b ≠ r → w'.heap[b]? = w.heap[b]?) : RNumIs w' v z K := by
  obtain ⟨ao, l, cp, h1, sl, L, g1, g2, g3⟩ := h
  refine ⟨ao, l, cp, h1, sl, L, g1, ⟨g2.1, ?_⟩, g3⟩
  rcases g2.2 with e | ⟨g, cap, cur, hv, hb, hh, rr⟩
  · exact Or.inl e
  · refine Or.inr ⟨g, cap, cur, hv, hb, (hk g ?_).trans hh, rr⟩
    intro e
    rw [e, hr] at hh
    simp only [Option.some.injEq, Obj.cells.injEq] at hh
    exact ht hh.2.1
theorem RatIs.keep {w w' : World} {r : Nat} {v : Value} {n d : Int} {K : Nat} {c : Array Value} {t : TypeId} {fz : Nat × Nat} (h : RatIs w v n d K) (hr : w.heap[r]? = some (.cells c t fz)) (ht : t ≠ 213) (hk : ∀ b, b ≠ r → w'.heap[b]? = w.heap[b]?) : RatIs w' v n d K := by
  obtain ⟨a1, l1, c1, a2, l2, c2, h1, h2, h3⟩ := h
  exact ⟨a1, l1, c1, a2, l2, c2, h1, num_keep h2 hr ht hk, num_keep h3 hr ht hk⟩
theorem TRatIs.keep {w w' : World} {r : Nat} {v : Value} {n d : Int} {K : Nat} {c : Array Value} {t : TypeId} {fz : Nat × Nat} (h : TRatIs w v n d K) (hr : w.heap[r]? = some (.cells c t fz)) (ht : t ≠ 3) (hk : ∀ b, b ≠ r → w'.heap[b]? = w.heap[b]?) : TRatIs w' v n d K := by
  obtain ⟨a1, l1, c1, a2, l2, c2, m, h1, h2, h3, h4⟩ := h
  exact ⟨a1, l1, c1, a2, l2, c2, m, h1, rnum_keep h2 hr ht hk, rnum_keep h3 hr ht hk, h4⟩
end Go.Proofs.YtcdkoadobdgbhaaGreatDoor
/- Fractions: copied, Num. -/
namespace Go.Proofs.YtcdkoadobdgbhaaGreatDoor
open Go.RowKit
set_option linter.unusedVariables false
set_option maxRecDepth 100000
set_option linter.unusedSimpArgs false
attribute [local go_sem ↓] Go.wp_at_zero Go.wp_at_succ

theorem num_nought (w : World) : NumIs w (.agg #[.slice none 0 0, .bool false]) 0 0 := ⟨none, 0, 0, rfl, nat_zero w⟩
end Go.Proofs.YtcdkoadobdgbhaaGreatDoor
/- Fractions: Of, Sign, Neg, the program's and the document's. -/
namespace Go.Proofs.YtcdkoadobdgbhaaGreatDoor
open Go.RowKit
set_option linter.unusedVariables false
set_option maxRecDepth 100000
set_option linter.unusedSimpArgs false
attribute [local go_sem ↓] Go.wp_at_zero Go.wp_at_succ

theorem rat_of {w : World} {a1 a2 : Option Addr} {l1 c1 l2 c2 : Nat} {d1 d2 : Bool} {n d : Int} {K : Nat} (h1 : NumIs w (.agg #[.slice a1 l1 c1, .bool d1]) n K) (h2 : NumIs w (.agg #[.slice a2 l2 c2, .bool d2]) (d - 1) K) : RatIs w (.agg #[.slice a1 l1 c1, .bool d1, .slice a2 l2 c2, .bool d2]) n d K := by
  have e1 := num_bool h1
  have e2 := num_bool h2
  subst e1; subst e2
  exact ⟨a1, l1, c1, a2, l2, c2, rfl, h1, h2⟩
theorem p4_cells {w : World} {b : Nat} {y0 y1 y2 y3 : Value} {t : TypeId} (h : w.heap[b]? = some (.cells #[y0, y1, y2, y3] t (0, 0))) (x0 x1 x2 x3 : Value) : ((((w.setCell ⟨b, 0, none⟩ x0).setCell ⟨b, 1, none⟩ x1).setCell ⟨b, 2, none⟩ x2).setCell ⟨b, 3, none⟩ x3).cell? ⟨b, 0, none⟩ = some x0 ∧ ((((w.setCell ⟨b, 0, none⟩ x0).setCell ⟨b, 1, none⟩ x1).setCell ⟨b, 2, none⟩ x2).setCell ⟨b, 3, none⟩ x3).cell? ⟨b, 1, none⟩ = some x1 ∧ ((((w.setCell ⟨b, 0, none⟩ x0).setCell ⟨b, 1, none⟩ x1).setCell ⟨b, 2, none⟩ x2).setCell ⟨b, 3, none⟩ x3).cell? ⟨b, 2, none⟩ = some x2 ∧ ((((w.setCell ⟨b, 0, none⟩ x0).setCell ⟨b, 1, none⟩ x1).setCell ⟨b, 2, none⟩ x2).setCell ⟨b, 3, none⟩ x3).cell? ⟨b, 3, none⟩ = some x3 := four_cell (p4_set h x0 x1 x2 x3)
set_option maxHeartbeats 2000000 in
theorem qsign_any (w : World) (v : Value) (n d : Int) (K : Nat) (hK : K < 900000000) (h : RatIs w v n d K) :
    Calls Tryz.prog 90 #[v] w fun e w' => e = .returned (.int .i64 (signZ n)) ∧ Below w.heap.size w w' := by
  obtain ⟨a1, l1, c1, a2, l2, c2, rfl, h2, h3⟩ := h
  generalize decide (n < 0) = b1 at *
  generalize decide (d - 1 < 0) = b2 at *
  have hx := box_new w (Obj.cells #[.slice a1 l1 c1, .bool b1, .slice a2 l2 c2, .bool b2] 73)
  have hB : Below w.heap.size w (w.alloc (Obj.cells #[.slice a1 l1 c1, .bool b1, .slice a2 l2 c2, .bool b2] 73)) := (Below.refl _ _).alloc (Nat.le_refl _) _
  have Na := h2.below hB
  clear h3 h2
  obtain ⟨x0, x1, x2, x3⟩ := four_cell hx
  go_enter Tryz.func90, Tryz.ntmps90
  go_wp2_with fail
  refine (nsign_any _ _ n K (by omega) Na).mono ?_
  rintro e w2 ⟨rfl, hb2⟩
  have B2 := chain2 hB hb2
  go_wp2
  go_ret
  exact ⟨rfl, B2⟩
set_option maxHeartbeats 2000000 in
theorem tsign_any (w : World) (v : Value) (n d : Int) (K : Nat) (hK : K < 900000000) (h : TRatIs w v n d K) :
    Calls Tryz.prog 65 #[v] w fun e w' => e = .returned (.int .i64 (signZ n)) ∧ Below w.heap.size w w' := by
  obtain ⟨a1, l1, c1, a2, l2, c2, m, rfl, h2, h3, h4⟩ := h
  generalize decide (n < 0) = b1 at *
  generalize decide (m < 0) = b2 at *
  have hx := box_new w (Obj.cells #[.bool b1, .slice a1 l1 c1, .bool b2, .slice a2 l2 c2] 35)
  have hB : Below w.heap.size w (w.alloc (Obj.cells #[.bool b1, .slice a1 l1 c1, .bool b2, .slice a2 l2 c2] 35)) := (Below.refl _ _).alloc (Nat.le_refl _) _
  have Na := h2.below hB
  clear h3 h2 h4
  obtain ⟨x0, x1, x2, x3⟩ := four_cell hx
  go_enter Tryz.func65, Tryz.ntmps65
  go_wp2_with fail
  refine (ssign_any _ _ n K (by omega) Na).mono ?_
  rintro e w2 ⟨rfl, hb2⟩
  have B2 := chain2 hB hb2
  go_wp2
  go_ret
  exact ⟨rfl, B2⟩
set_option maxHeartbeats 2000000 in
theorem qof_any (w : World) (z : Int) (h1 : -9223372036854775808 ≤ z) (h2 : z < 9223372036854775808) :
    Calls Tryz.prog 84 #[.int .i64 z] w fun e w' => ∃ v, e = .returned v ∧ RatIs w' v z 1 2 ∧ Below w.heap.size w w' := by
  have hy := box_new w (Obj.cells #[.slice none 0 0, .bool false, .slice none 0 0, .bool false] 73)
  have hB : Below w.heap.size w (w.alloc (Obj.cells #[.slice none 0 0, .bool false, .slice none 0 0, .bool false] 73)) := (Below.refl _ _).alloc (Nat.le_refl _) _
  go_enter Tryz.func84, Tryz.ntmps84
  go_wp2_with fail
  generalize w.alloc (Obj.cells #[.slice none 0 0, .bool false, .slice none 0 0, .bool false] 73) = W at *
  refine (nof_any W z h1 h2).mono ?_
  rintro e w2 ⟨v2, rfl, n2, hb2⟩
  obtain ⟨ao, lo, co, dd, rfl⟩ := num_form n2
  have y1 := box_below hb2 hy (lt_of_block hy)
  obtain ⟨i0, i1, i2, i3⟩ := four_cell y1
  have fr := p4_free y1
  have o1 := p4_cells y1 (.slice ao lo co) (.bool dd) (.slice none 0 0) (.bool false)
  have o2 := p4_below (chain2 hB hb2) (Nat.le_refl _) (.slice ao lo co) (.bool dd) (.slice none 0 0) (.bool false)
  have o3 := (rat_of n2 (d := 1) ((num_nought w2).mono (Nat.zero_le _))).keep y1 (by decide) (p4_other (.slice ao lo co) (.bool dd) (.slice none 0 0) (.bool false))
  have HO := hid (And.intro o1 (And.intro o2 o3))
  clear o1 o2 o3 n2
  go_wp2
  obtain ⟨⟨g0, g1, g2, g3⟩, o2, o3⟩ := HO.out
  exact bodyPost_ret (v := .agg #[.slice ao lo co, .bool dd, .slice none 0 0, .bool false]) (by simp [results, Tryz.results84, go_sem, g0, g1, g2, g3]) rfl ⟨_, rfl, o3, o2⟩
set_option maxHeartbeats 2000000 in
theorem tof_any (w : World) (z : Int) (h1 : -9223372036854775808 ≤ z) (h2 : z < 9223372036854775808) :
    Calls Tryz.prog 8 #[.int .i64 z] w fun e w' => ∃ v, e = .returned v ∧ TRatIs w' v z 1 3 ∧ Below w.heap.size w w' := by
  have hy := box_new w (Obj.cells #[.bool false, .slice none 0 0, .bool false, .slice none 0 0] 35)
  have hB : Below w.heap.size w (w.alloc (Obj.cells #[.bool false, .slice none 0 0, .bool false, .slice none 0 0] 35)) := (Below.refl _ _).alloc (Nat.le_refl _) _
  go_enter Tryz.func8, Tryz.ntmps8
  go_wp2_with fail
  generalize w.alloc (Obj.cells #[.bool false, .slice none 0 0, .bool false, .slice none 0 0] 35) = W at *
  refine (sof_any _ z h1 h2).mono ?_
  rintro e w2 ⟨v2, rfl, n2, B1⟩
  obtain ⟨a2, l2, c2, d2, rfl⟩ := rnum_form n2
  go_wp2_with fail
  refine (sof_any _ 1 (by omega) (by omega)).mono ?_
  rintro e w3 ⟨v3, rfl, n3, b3⟩
  obtain ⟨a3, l3, c3, d3, rfl⟩ := rnum_form n3
  have B3 := chain2 B1 b3
  have y3 := box_below B3 hy (lt_of_block hy)
  obtain ⟨i0, i1, i2, i3⟩ := four_cell y3
  have fr := p4_free y3
  have o1 := p4_cells y3 (.bool d2) (.slice a2 l2 c2) (.bool d3) (.slice a3 l3 c3)
  have o2 := p4_below (chain2 hB B3) (Nat.le_refl _) (.bool d2) (.slice a2 l2 c2) (.bool d3) (.slice a3 l3 c3)
  have o3 := (trat_of (n2.below b3) n3 (by omega)).keep y3 (by decide) (p4_other (.bool d2) (.slice a2 l2 c2) (.bool d3) (.slice a3 l3 c3))
  have HO := hid (And.intro o1 (And.intro o2 o3))
  clear o1 o2 o3 n2 n3
  go_wp2
  obtain ⟨⟨g0, g1, g2, g3⟩, o2, o3⟩ := HO.out
  exact bodyPost_ret (v := .agg #[.bool d2, .slice a2 l2 c2, .bool d3, .slice a3 l3 c3]) (by simp [results, Tryz.results8, go_sem, g0, g1, g2, g3]) rfl ⟨_, rfl, o3, o2⟩
end Go.Proofs.YtcdkoadobdgbhaaGreatDoor
/- Fractions: Mul, Div, levelled, Cmp. -/
namespace Go.Proofs.YtcdkoadobdgbhaaGreatDoor
open Go.RowKit
set_option linter.unusedVariables false
set_option maxRecDepth 100000
set_option linter.unusedSimpArgs false
attribute [local go_sem ↓] Go.wp_at_zero Go.wp_at_succ

theorem two_keepQ {X : World} {p q r : Nat} {x0 x1 x2 x3 y0 y1 y2 y3 : Value} (h : X.cell? ⟨p, 0, none⟩ = some x0 ∧ X.cell? ⟨p, 1, none⟩ = some x1 ∧ X.cell? ⟨p, 2, none⟩ = some x2 ∧ X.cell? ⟨p, 3, none⟩ = some x3 ∧ X.cell? ⟨q, 0, none⟩ = some y0 ∧ X.cell? ⟨q, 1, none⟩ = some y1 ∧ X.cell? ⟨q, 2, none⟩ = some y2 ∧ X.cell? ⟨q, 3, none⟩ = some y3) (h1 : p ≠ r) (h2 : q ≠ r) (v0 v1 : Value) :
    let Y := (X.setCell ⟨r, 0, none⟩ v0).setCell ⟨r, 1, none⟩ v1
    Y.cell? ⟨p, 0, none⟩ = some x0 ∧ Y.cell? ⟨p, 1, none⟩ = some x1 ∧ Y.cell? ⟨p, 2, none⟩ = some x2 ∧ Y.cell? ⟨p, 3, none⟩ = some x3 ∧ Y.cell? ⟨q, 0, none⟩ = some y0 ∧ Y.cell? ⟨q, 1, none⟩ = some y1 ∧ Y.cell? ⟨q, 2, none⟩ = some y2 ∧ Y.cell? ⟨q, 3, none⟩ = some y3 :=
  ⟨two_keep0 h.1 h1 _ _, two_keep0 h.2.1 h1 _ _, two_keep0 h.2.2.1 h1 _ _, two_keep0 h.2.2.2.1 h1 _ _, two_keep0 h.2.2.2.2.1 h2 _ _, two_keep0 h.2.2.2.2.2.1 h2 _ _, two_keep0 h.2.2.2.2.2.2.1 h2 _ _, two_keep0 h.2.2.2.2.2.2.2 h2 _ _⟩
theorem RatIs.top {w : World} {a1 a2 : Option Addr} {l1 c1 l2 c2 : Nat} {b1 b2 : Bool} {n d : Int} {K : Nat} (h : RatIs w (.agg #[.slice a1 l1 c1, .bool b1, .slice a2 l2 c2, .bool b2]) n d K) : NumIs w (.agg #[.slice a1 l1 c1, .bool b1]) n K := by
  obtain ⟨_, _, _, _, _, _, e, k1, _⟩ := h
  simp only [Value.agg.injEq, Array.mk.injEq, List.cons.injEq] at e
  rw [e.1, e.2.1]; exact k1
end Go.Proofs.YtcdkoadobdgbhaaGreatDoor
/- Fractions: levelled, Cmp. -/
namespace Go.Proofs.YtcdkoadobdgbhaaGreatDoor
open Go.RowKit
set_option linter.unusedVariables false
set_option maxRecDepth 100000
set_option linter.unusedSimpArgs false
attribute [local go_sem ↓] Go.wp_at_zero Go.wp_at_succ

set_option maxHeartbeats 8000000 in
theorem qlevelled_any (w : World) (a b : Value) (n1 d1 n2 d2 : Int) (K : Nat) (hK : K ≤ 1000000) (ha : RatIs w a n1 d1 K) (hb : RatIs w b n2 d2 K) :
    Calls Tryz.prog 133 #[a, b] w fun e w' => (∃ a5 l5 c5 b5 a6 l6 c6 b6, e = .returned (.tuple #[.agg #[.slice a5 l5 c5, .bool b5], .agg #[.slice a6 l6 c6, .bool b6]]) ∧ NumIs w' (.agg #[.slice a5 l5 c5, .bool b5]) (n1 * d2) (2 * K + 3) ∧ NumIs w' (.agg #[.slice a6 l6 c6, .bool b6]) (n2 * d1) (2 * K + 3)) ∧ Below w.heap.size w w' := by
  have ha0 := ha
  have hb0 := hb
  obtain ⟨a1, l1, c1, a2, l2, c2, rfl, h1, _⟩ := ha
  obtain ⟨a3, l3, c3, a4, l4, c4, rfl, h3, _⟩ := hb
  generalize decide (n1 < 0) = b1 at *
  generalize decide (d1 - 1 < 0) = b2 at *
  generalize decide (n2 < 0) = b3 at *
  generalize decide (d2 - 1 < 0) = b4 at *
  obtain ⟨hB, hx, hy, hz, hq, _⟩ := boxed4 w (Obj.cells #[.slice a1 l1 c1, .bool b1, .slice a2 l2 c2, .bool b2] 73) (Obj.cells #[.slice a3 l3 c3, .bool b3, .slice a4 l4 c4, .bool b4] 73) (Obj.cells #[.slice none 0 0, .bool false] 71) (Obj.cells #[.slice none 0 0, .bool false] 71)
  have Na := h1.below hB
  have Nc := h3.below hB
  have Ra := ha0.below hB
  have Rb := hb0.below hB
  clear h1 h3 ha0 hb0
  go_enter Tryz.func133, Tryz.ntmps133
  go_wp2
  generalize (((w.alloc (Obj.cells #[.slice a1 l1 c1, .bool b1, .slice a2 l2 c2, .bool b2] 73)).alloc (Obj.cells #[.slice a3 l3 c3, .bool b3, .slice a4 l4 c4, .bool b4] 73)).alloc (Obj.cells #[.slice none 0 0, .bool false] 71)).alloc (Obj.cells #[.slice none 0 0, .bool false] 71) = W at *
  obtain ⟨t1, t2, t3, t4⟩ := four_cell hx
  obtain ⟨t5, t6, t7, t8⟩ := four_cell hy
  have B0 : Below W.heap.size W W.drew := (Below.refl _ _).drew
  have ne1 : w.heap.size ≠ w.heap.size + 1 + 1 := by omega
  have ne2 : w.heap.size + 1 ≠ w.heap.size + 1 + 1 := by omega
  have ne3 : w.heap.size ≠ w.heap.size + 1 + 1 + 1 := by omega
  have ne4 : w.heap.size + 1 ≠ w.heap.size + 1 + 1 + 1 := by omega
  have ne5 : w.heap.size + 1 + 1 + 1 ≠ w.heap.size + 1 + 1 := by omega
  have hle : w.heap.size ≤ w.heap.size + 1 + 1 := by omega
  have hle2 : w.heap.size ≤ w.heap.size + 1 + 1 + 1 := by omega
  go_region_held3 (fun w' => w'.cell? ⟨w.heap.size, 0, none⟩ = some (Value.slice a1 l1 c1) ∧ w'.cell? ⟨w.heap.size, 1, none⟩ = some (Value.bool b1) ∧ w'.cell? ⟨w.heap.size, 2, none⟩ = some (Value.slice a2 l2 c2) ∧ w'.cell? ⟨w.heap.size, 3, none⟩ = some (Value.bool b2) ∧ w'.cell? ⟨w.heap.size + 1, 0, none⟩ = some (Value.slice a3 l3 c3) ∧ w'.cell? ⟨w.heap.size + 1, 1, none⟩ = some (Value.bool b3) ∧ w'.cell? ⟨w.heap.size + 1, 2, none⟩ = some (Value.slice a4 l4 c4) ∧ w'.cell? ⟨w.heap.size + 1, 3, none⟩ = some (Value.bool b4)) ((first | exact K3 | exact K4 | (refine keepQ t1 t2 t3 t4 t5 t6 t7 t8 ?_; first | exact B0 | exact B1 | exact B2 | exact B3 | exact B4))) (first
    | (have gk := B3; go_at_call 153; refine (nmul_any _ _ _ n2 d1 K (K + 3) (by omega) (by omega) (Nc.below B3) n103).mono ?_; rintro e w104 ⟨v104, rfl, n104, hb104⟩; have B4 := chain2 B3 hb104; obtain ⟨a6, l6, c6, b6, rfl⟩ := num_form n104; have zr := box_below B4 hz (lt_of_block hz); have zq := box_set2 (box_below B4 hq (lt_of_block hq)) ne5 (.slice a5 l5 c5) (.bool b5); have i0 := two_cell0 zr; have i1 := two_cell1 zr; have f0 := two_free (k := 0) zr; have f1 := two_free (k := 1) zr; have i2 := two_cell0 zq; have i3 := two_cell1 zq; have f2 := two_free (k := 0) zq; have f3 := two_free (k := 1) zq; have K3 := two_keepQ (keepQ t1 t2 t3 t4 t5 t6 t7 t8 B4) ne1 ne2 (.slice a5 l5 c5) (.bool b5); have K4 := two_keepQ K3 ne3 ne4 (.slice a6 l6 c6) (.bool b6))
    | (have gk := B2; go_at_call 130; refine (qden_any _ _ n1 d1 K (by omega) (Ra.below B2)).mono ?_; rintro e w103 ⟨v103, rfl, n103, hb103⟩; have B3 := chain2 B2 hb103)
    | (have gk := B1; go_at_call 153; refine (nmul_any _ _ _ n1 d2 K (K + 3) (by omega) (by omega) (Na.below B1) n101).mono ?_; rintro e w102 ⟨v102, rfl, n102, hb102⟩; have B2 := chain2 B1 hb102; obtain ⟨a5, l5, c5, b5, rfl⟩ := num_form n102)
    | (have gk := B0; go_at_call 130; refine (qden_any _ _ n2 d2 K (by omega) (Rb.below B0)).mono ?_; rintro e w101 ⟨v101, rfl, n101, hb101⟩; have B1 := chain2 B0 hb101))
  all_goals
    have p1 := box_set2 (two_set1 (x := .bool b5) (two_set0 (x := .slice a5 l5 c5) zr)) (fun e => ne5 e.symm) (.slice a6 l6 c6) (.bool b6)
    have p2 := two_set1 (x := .bool b6) (two_set0 (x := .slice a6 l6 c6) zq)
    have q1 := ((n102.below (chain2 hb103 hb104)).box2 zr (by decide) (.slice a5 l5 c5) (.bool b5)).box2 zq (by decide) (.slice a6 l6 c6) (.bool b6)
    have q2 := (n104.box2 zr (by decide) (.slice a5 l5 c5) (.bool b5)).box2 zq (by decide) (.slice a6 l6 c6) (.bool b6)
    have o2 := ((((chain2 hB B4).setCell (p := ⟨w.heap.size + 1 + 1, 0, none⟩) hle (.slice a5 l5 c5)).setCell (p := ⟨w.heap.size + 1 + 1, 1, none⟩) hle (.bool b5)).setCell (p := ⟨w.heap.size + 1 + 1 + 1, 0, none⟩) hle2 (.slice a6 l6 c6)).setCell (p := ⟨w.heap.size + 1 + 1 + 1, 1, none⟩) hle2 (.bool b6)
    have HO := hid (And.intro p1 (And.intro p2 (And.intro q1 (And.intro q2 o2))))
    clear p1 p2 q1 q2 o2 i0 i1 i2 i3 f0 f1 f2 f3 zr zq K3 K4
    generalize (((w104.setCell ⟨w.heap.size + 1 + 1, 0, none⟩ (.slice a5 l5 c5)).setCell ⟨w.heap.size + 1 + 1, 1, none⟩ (.bool b5)).setCell ⟨w.heap.size + 1 + 1 + 1, 0, none⟩ (.slice a6 l6 c6)).setCell ⟨w.heap.size + 1 + 1 + 1, 1, none⟩ (.bool b6) = X at *
    go_wp2
    obtain ⟨p1, p2, q1, q2, o2⟩ := HO.out
    have g0 := two_cell0 p1
    have g1 := two_cell1 p1
    have g2 := two_cell0 p2
    have g3 := two_cell1 p2
    exact bodyPost_ret (v := .tuple #[.agg #[.slice a5 l5 c5, .bool b5], .agg #[.slice a6 l6 c6, .bool b6]]) (by simp [results, Tryz.results133, go_sem, g0, g1, g2, g3]) rfl ⟨⟨a5, l5, c5, b5, a6, l6, c6, b6, rfl, q1.mono (by omega), q2.mono (by omega)⟩, o2⟩
set_option maxHeartbeats 8000000 in
theorem qcmp_any (w : World) (a b : Value) (n1 d1 n2 d2 : Int) (K : Nat) (hK : K ≤ 1000000) (ha : RatIs w a n1 d1 K) (hb : RatIs w b n2 d2 K) :
    Calls Tryz.prog 92 #[a, b] w fun e w' => e = .returned (.int .i64 (cmpZ (n1 * d2) (n2 * d1))) ∧ Below w.heap.size w w' := by
  have ha0 := ha
  have hb0 := hb
  obtain ⟨a1, l1, c1, a2, l2, c2, rfl, h1, _⟩ := ha
  obtain ⟨a3, l3, c3, a4, l4, c4, rfl, h3, _⟩ := hb
  generalize decide (n1 < 0) = b1 at *
  generalize decide (d1 - 1 < 0) = b2 at *
  generalize decide (n2 < 0) = b3 at *
  generalize decide (d2 - 1 < 0) = b4 at *
  have hx := boxed2_first w (Obj.cells #[.slice a1 l1 c1, .bool b1, .slice a2 l2 c2, .bool b2] 73) (Obj.cells #[.slice a3 l3 c3, .bool b3, .slice a4 l4 c4, .bool b4] 73)
  have hy := boxed2_second w (Obj.cells #[.slice a1 l1 c1, .bool b1, .slice a2 l2 c2, .bool b2] 73) (Obj.cells #[.slice a3 l3 c3, .bool b3, .slice a4 l4 c4, .bool b4] 73)
  have hB := boxed2 (Below.refl w.heap.size w) (Obj.cells #[.slice a1 l1 c1, .bool b1, .slice a2 l2 c2, .bool b2] 73) (Obj.cells #[.slice a3 l3 c3, .bool b3, .slice a4 l4 c4, .bool b4] 73)
  have Ra := ha0.below hB
  have Rb := hb0.below hB
  clear h1 h3 ha0 hb0
  obtain ⟨t1, t2, t3, t4⟩ := four_cell hx
  obtain ⟨t5, t6, t7, t8⟩ := four_cell hy
  go_enter Tryz.func92, Tryz.ntmps92
  go_wp2_with fail
  generalize (w.alloc (Obj.cells #[.slice a1 l1 c1, .bool b1, .slice a2 l2 c2, .bool b2] 73)).alloc (Obj.cells #[.slice a3 l3 c3, .bool b3, .slice a4 l4 c4, .bool b4] 73) = W at *
  refine (qlevelled_any _ _ _ n1 d1 n2 d2 K hK Ra Rb).mono ?_
  rintro e w1 ⟨⟨a5, l5, c5, b5, a6, l6, c6, b6, rfl, x1, y1⟩, e1⟩
  have B1 := chain2 hB e1
  have hx := boxed2_first w1 (Obj.cells #[.slice a5 l5 c5, .bool b5] 71) (Obj.cells #[.slice a6 l6 c6, .bool b6] 71)
  have hy := boxed2_second w1 (Obj.cells #[.slice a5 l5 c5, .bool b5] 71) (Obj.cells #[.slice a6 l6 c6, .bool b6] 71)
  have h2 := boxed2 (Below.refl w1.heap.size w1) (Obj.cells #[.slice a5 l5 c5, .bool b5] 71) (Obj.cells #[.slice a6 l6 c6, .bool b6] 71)
  have B2 := chain2 B1 h2
  have x2 := x1.below h2
  have y2 := y1.below h2
  have t1 := two_cell0 hx
  have t2 := two_cell1 hx
  have t3 := two_cell0 hy
  have t4 := two_cell1 hy
  go_wp2_with fail
  refine (ncmp_any _ _ _ (n1 * d2) (n2 * d1) (2 * K + 3) (2 * K + 3) (by omega) (by omega) x2 y2).mono ?_
  rintro e w2 ⟨rfl, e2⟩
  have B3 := chain2 B2 e2
  go_wp2
  go_ret
  exact ⟨rfl, B3⟩
end Go.Proofs.YtcdkoadobdgbhaaGreatDoor
/- The document's fractions: made, Mul, Div, Add, Sub, Cmp. -/
namespace Go.Proofs.YtcdkoadobdgbhaaGreatDoor
open Go.RowKit
set_option linter.unusedVariables false
set_option maxRecDepth 100000
set_option linter.unusedSimpArgs false
attribute [local go_sem ↓] Go.wp_at_zero Go.wp_at_succ

set_option maxHeartbeats 8000000 in
theorem tcmp_any (w : World) (a b : Value) (n1 d1 n2 d2 : Int) (K : Nat) (hK : K ≤ 1000000) (ha : TRatIs w a n1 d1 K) (hb : TRatIs w b n2 d2 K) :
    Calls Tryz.prog 45 #[a, b] w fun e w' => e = .returned (.int .i64 (cmpZ (n1 * d2) (n2 * d1))) ∧ Below w.heap.size w w' := by
  have ha0 := ha
  have hb0 := hb
  obtain ⟨a1, l1, c1, a2, l2, c2, m1, rfl, h1, _⟩ := ha
  obtain ⟨a3, l3, c3, a4, l4, c4, m2, rfl, h3, _⟩ := hb
  generalize decide (n1 < 0) = b1 at *
  generalize decide (m1 < 0) = b2 at *
  generalize decide (n2 < 0) = b3 at *
  generalize decide (m2 < 0) = b4 at *
  have hx := boxed2_first w (Obj.cells #[.bool b1, .slice a1 l1 c1, .bool b2, .slice a2 l2 c2] 35) (Obj.cells #[.bool b3, .slice a3 l3 c3, .bool b4, .slice a4 l4 c4] 35)
  have hy := boxed2_second w (Obj.cells #[.bool b1, .slice a1 l1 c1, .bool b2, .slice a2 l2 c2] 35) (Obj.cells #[.bool b3, .slice a3 l3 c3, .bool b4, .slice a4 l4 c4] 35)
  have hB := boxed2 (Below.refl w.heap.size w) (Obj.cells #[.bool b1, .slice a1 l1 c1, .bool b2, .slice a2 l2 c2] 35) (Obj.cells #[.bool b3, .slice a3 l3 c3, .bool b4, .slice a4 l4 c4] 35)
  have Na := h1.below hB
  have Nc := h3.below hB
  have Ra := ha0.below hB
  have Rb := hb0.below hB
  clear h1 h3 ha0 hb0
  go_enter Tryz.func45, Tryz.ntmps45
  go_wp2
  generalize (w.alloc (Obj.cells #[.bool b1, .slice a1 l1 c1, .bool b2, .slice a2 l2 c2] 35)).alloc (Obj.cells #[.bool b3, .slice a3 l3 c3, .bool b4, .slice a4 l4 c4] 35) = W at *
  obtain ⟨t1, t2, t3, t4⟩ := four_cell hx
  obtain ⟨t5, t6, t7, t8⟩ := four_cell hy
  have B0 : Below W.heap.size W W.drew := (Below.refl _ _).drew
  go_region_held3 (fun w' => w'.cell? ⟨w.heap.size, 0, none⟩ = some (Value.bool b1) ∧ w'.cell? ⟨w.heap.size, 1, none⟩ = some (Value.slice a1 l1 c1) ∧ w'.cell? ⟨w.heap.size, 2, none⟩ = some (Value.bool b2) ∧ w'.cell? ⟨w.heap.size, 3, none⟩ = some (Value.slice a2 l2 c2) ∧ w'.cell? ⟨w.heap.size + 1, 0, none⟩ = some (Value.bool b3) ∧ w'.cell? ⟨w.heap.size + 1, 1, none⟩ = some (Value.slice a3 l3 c3) ∧ w'.cell? ⟨w.heap.size + 1, 2, none⟩ = some (Value.bool b4) ∧ w'.cell? ⟨w.heap.size + 1, 3, none⟩ = some (Value.slice a4 l4 c4)) ((refine keepQ t1 t2 t3 t4 t5 t6 t7 t8 ?_; first | exact B0 | exact B1 | exact B2 | exact B3 | exact B4 | exact B5)) (first
    | (have gk := B4; go_at_call 101; refine (scmp_any _ _ _ (n1 * d2) (n2 * d1) (K + (K + 3)) (K + (K + 3)) (by omega) (by omega) (n102.below (chain2 hb103 hb104)) n104).mono ?_; rintro e w105 ⟨rfl, hb105⟩; have B5 := chain2 B4 hb105)
    | (have gk := B3; go_at_call 23; refine (smul_any _ _ _ n2 d1 K (K + 3) (by omega) (by omega) (Nc.below B3) n103).mono ?_; rintro e w104 ⟨v104, rfl, n104, hb104⟩; have B4 := chain2 B3 hb104)
    | (have gk := B2; go_at_call 24; refine (tden_any _ _ n1 d1 K (by omega) (Ra.below B2)).mono ?_; rintro e w103 ⟨v103, rfl, n103, hb103⟩; have B3 := chain2 B2 hb103)
    | (have gk := B1; go_at_call 23; refine (smul_any _ _ _ n1 d2 K (K + 3) (by omega) (by omega) (Na.below B1) n101).mono ?_; rintro e w102 ⟨v102, rfl, n102, hb102⟩; have B2 := chain2 B1 hb102)
    | (have gk := B0; go_at_call 24; refine (tden_any _ _ n2 d2 K (by omega) (Rb.below B0)).mono ?_; rintro e w101 ⟨v101, rfl, n101, hb101⟩; have B1 := chain2 B0 hb101))
  all_goals
    have g9 := chain2 hB B5
    go_wp2
    go_ret
    exact ⟨rfl, g9⟩
end Go.Proofs.YtcdkoadobdgbhaaGreatDoor
/- cert: the fractions' calls, as numbers; the program's and the document's. -/
namespace Go.Proofs.YtcdkoadobdgbhaaGreatDoor
open Go.RowKit
set_option linter.unusedVariables false
set_option linter.unusedSimpArgs false

theorem QIs.form {w : World} {v : Value} {q : Rat} {K : Nat} (h : QIs w v q K) : ∃ a1 l1 c1 b1 a2 l2 c2 b2, v = .agg #[.slice a1 l1 c1, .bool b1, .slice a2 l2 c2, .bool b2] := by
  obtain ⟨a1, l1, c1, a2, l2, c2, h1, _⟩ := h
  exact ⟨a1, l1, c1, _, a2, l2, c2, _, h1⟩
theorem TIs.form {w : World} {v : Value} {q : Rat} {K : Nat} (h : TIs w v q K) : ∃ b1 a1 l1 c1 b2 a2 l2 c2, v = .agg #[.bool b1, .slice a1 l1 c1, .bool b2, .slice a2 l2 c2] := by
  obtain ⟨a1, l1, c1, a2, l2, c2, m, h1, _⟩ := h
  exact ⟨_, a1, l1, c1, _, a2, l2, c2, h1⟩
theorem q_cmp (w : World) (a b : Value) (p q : Rat) (K : Nat) (hK : K ≤ 1000000) (ha : QIs w a p K) (hb : QIs w b q K) :
    Calls Tryz.prog 92 #[a, b] w fun e w' => e = .returned (.int .i64 (cmpR p q)) ∧ Below w.heap.size w w' := by
  rw [← cmp_rat]
  exact qcmp_any w a b _ _ _ _ K hK ha hb
theorem q_sign (w : World) (a : Value) (p : Rat) (K : Nat) (hK : K < 900000000) (ha : QIs w a p K) :
    Calls Tryz.prog 90 #[a] w fun e w' => e = .returned (.int .i64 (sgnR p)) ∧ Below w.heap.size w w' := by
  rw [← sgn_rat]
  exact qsign_any w a _ _ K hK ha
theorem q_of (w : World) (z : Int) (h1 : -9223372036854775808 ≤ z) (h2 : z < 9223372036854775808) :
    Calls Tryz.prog 84 #[.int .i64 z] w fun e w' => ∃ v, e = .returned v ∧ QIs w' v (z : Rat) 2 ∧ Below w.heap.size w w' := qof_any w z h1 h2
/-- s is the text of the number q. -/
def TxR (s : ByteArray) (q : Rat) : Prop := QTx s q.num q.den
theorem TxR.inj {s t : ByteArray} {q : Rat} (h : TxR s q) (k : TxR t q) : s = t := QTx.inj h k
/-- s is the text of the number q. -/
def CanR (s : ByteArray) (q : Rat) : Prop := Can s q.num q.den
theorem can_rat {s : ByteArray} {n d : Int} (h : Can s n d) : (Rat.divInt n d).num = n ∧ ((Rat.divInt n d).den : Int) = d := num_den_of h.pos h.cop
theorem CanR.inj {s : ByteArray} {p q : Rat} (h : CanR s p) (k : CanR s q) : p = q := by
  obtain ⟨h1, h2⟩ := can_uniq h k
  exact Rat.ext h1 (by omega)
theorem q_parse (s : ByteArray) (w : World) (hs : s.size ≤ 100000) (hm : Mx w) (htab : Tab w) :
    Calls Tryz.prog 74 #[.string s] w fun e w' => ((∃ q v, CanR s q ∧ e = .returned (.tuple #[v, .int .i64 0]) ∧ QIs w' v q (s.size / 9 + 8)) ∨ ((∀ q, ¬ CanR s q) ∧ e = .returned (.tuple #[.agg #[.slice none 0 0, .bool false, .slice none 0 0, .bool false], .int .i64 10]))) ∧ Below w.heap.size w w' := by
  refine (qparse_any s w hs hm htab).mono ?_
  rintro e w' ⟨h, b⟩
  refine ⟨?_, b⟩
  rcases h with ⟨n, d, v, hc, rfl, hv⟩ | ⟨hn, rfl⟩
  · obtain ⟨h1, h2⟩ := can_rat hc
    refine Or.inl ⟨Rat.divInt n d, v, ?_, rfl, ?_⟩
    · unfold CanR; rw [h1, h2]; exact hc
    · unfold QIs; rw [h1, h2]; exact hv
  · exact Or.inr ⟨fun q => hn _ _, rfl⟩
theorem t_parse (s : ByteArray) (w : World) (hs : s.size ≤ 100000) :
    Calls Tryz.prog 98 #[.string s] w fun e w' => ((∃ q v, CanR s q ∧ e = .returned (.tuple #[v, .int .i64 0]) ∧ TIs w' v q (s.size / 9 + 8)) ∨ ((∀ q, ¬ CanR s q) ∧ e = .returned (.tuple #[.agg #[.bool false, .slice none 0 0, .bool false, .slice none 0 0], .int .i64 10]))) ∧ Below w.heap.size w w' := by
  refine (tparse_any s w hs).mono ?_
  rintro e w' ⟨h, b⟩
  refine ⟨?_, b⟩
  rcases h with ⟨n, d, v, hc, rfl, hv⟩ | ⟨hn, rfl⟩
  · obtain ⟨h1, h2⟩ := can_rat hc
    refine Or.inl ⟨Rat.divInt n d, v, ?_, rfl, ?_⟩
    · unfold CanR; rw [h1, h2]; exact hc
    · unfold TIs; rw [h1, h2]; exact hv
  · exact Or.inr ⟨fun q => hn _ _, rfl⟩
theorem t_cmp (w : World) (a b : Value) (p q : Rat) (K : Nat) (hK : K ≤ 1000000) (ha : TIs w a p K) (hb : TIs w b q K) :
    Calls Tryz.prog 45 #[a, b] w fun e w' => e = .returned (.int .i64 (cmpR p q)) ∧ Below w.heap.size w w' := by
  rw [← cmp_rat]
  exact tcmp_any w a b _ _ _ _ K hK ha hb
theorem t_sign (w : World) (a : Value) (p : Rat) (K : Nat) (hK : K < 900000000) (ha : TIs w a p K) :
    Calls Tryz.prog 65 #[a] w fun e w' => e = .returned (.int .i64 (sgnR p)) ∧ Below w.heap.size w w' := by
  rw [← sgn_rat]
  exact tsign_any w a _ _ K hK ha
theorem t_of (w : World) (z : Int) (h1 : -9223372036854775808 ≤ z) (h2 : z < 9223372036854775808) :
    Calls Tryz.prog 8 #[.int .i64 z] w fun e w' => ∃ v, e = .returned v ∧ TIs w' v (z : Rat) 3 ∧ Below w.heap.size w w' := tof_any w z h1 h2
end Go.Proofs.YtcdkoadobdgbhaaGreatDoor
