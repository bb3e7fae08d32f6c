/- PNumber, PNum, PSmall, POps, PLevel, PJoin, PTOps, CRat, ITx. -/
import Derived.Test.YtbmdoncdgopoaaaGreatDoorZPTParse
import Derived.Test.YtbmdoncdgopoaaaGreatDoorPk22
import Derived.Test.YtbmdoncdgopoaaaGreatDoorPk34
import Derived.Test.YtbmdoncdgopoaaaGreatDoorPk29
import Derived.Test.YtbmdoncdgopoaaaGreatDoorPk33
/- Fractions of a law: number; Num. -/
namespace Go.Proofs.YtbmdoncdgopoaaaGreatDoor
open Go.RowKit
set_option linter.unusedVariables false
set_option maxRecDepth 100000
set_option linter.unusedSimpArgs false
attribute [local go_sem ↓] Go.wp_at_zero Go.wp_at_succ

theorem can_uniq {s : ByteArray} {n d n' d' : Int} (h : Can s n d) (k : Can s n' d') : n = n' ∧ d = d' := by
  obtain ⟨p, hc, _⟩ := cut_bar s
  by_cases hp : p < s.size
  · have a := (can_parts hc hp).1 h
    have b := (can_parts hc hp).1 k
    exact ⟨a.2.2.2.1.uniq b.2.2.2.1, a.2.2.2.2.uniq b.2.2.2.2⟩
  · have e : p = s.size := by have := hc.le; omega
    subst e
    have a := (can_whole hc).1 h
    have b := (can_whole hc).1 k
    exact ⟨a.2.uniq b.2, a.1.trans b.1.symm⟩
open Classical in
/-- What Parse of a fraction tells of a text. -/
noncomputable def cE (s : ByteArray) : Int := if ∃ n d, Can s n d then 0 else 10
theorem cE_cases (s : ByteArray) : (cE s = 0 ∧ ∃ n d, Can s n d) ∨ (cE s = 10 ∧ ∀ n d, ¬ Can s n d) := by
  by_cases h : ∃ n d, Can s n d
  · exact Or.inl ⟨by rw [cE, if_pos h], h⟩
  · exact Or.inr ⟨by rw [cE, if_neg h], fun n d k => h ⟨n, d, k⟩⟩
theorem qparse_both (s : ByteArray) (w : World) (hs : s.size ≤ 100000) (hm : Mx w) (htab : Tab w) :
    Calls Tryz.prog 59 #[.string s] w fun e w' => ∃ a1 l1 c1 d1 a2 l2 c2 d2, e = .returned (.tuple #[.agg #[.slice a1 l1 c1, .bool d1, .slice a2 l2 c2, .bool d2], .int .i64 (cE s)]) ∧ (∀ n d, Can s n d → RatIs w' (.agg #[.slice a1 l1 c1, .bool d1, .slice a2 l2 c2, .bool d2]) n d (s.size / 9 + 8)) ∧ Below w.heap.size w w' := by
  refine (qparse_any s w hs hm htab).mono ?_
  rintro e w' ⟨⟨n, d, v, h1, rfl, h2⟩ | ⟨h1, rfl⟩, hb⟩
  · obtain ⟨a1, l1, c1, d1, a2, l2, c2, d2, rfl⟩ := rat_form h2
    refine ⟨a1, l1, c1, d1, a2, l2, c2, d2, by rw [cE, if_pos ⟨n, d, h1⟩], fun n' d' k => ?_, hb⟩
    obtain ⟨rfl, rfl⟩ := can_uniq h1 k
    exact h2
  · exact ⟨none, 0, 0, false, none, 0, 0, false, by rw [cE, if_neg (fun ⟨n, d, k⟩ => h1 n d k)], fun n d k => absurd k (h1 n d), hb⟩
theorem tparse_both (s : ByteArray) (w : World) (hs : s.size ≤ 100000) :
    Calls Tryz.prog 65 #[.string s] w fun e w' => ∃ a1 l1 c1 d1 a2 l2 c2 d2, e = .returned (.tuple #[.agg #[.bool d1, .slice a1 l1 c1, .bool d2, .slice a2 l2 c2], .int .i64 (cE s)]) ∧ (∀ n d, Can s n d → TRatIs w' (.agg #[.bool d1, .slice a1 l1 c1, .bool d2, .slice a2 l2 c2]) n d (s.size / 9 + 8)) ∧ Below w.heap.size w w' := by
  refine (tparse_any s w hs).mono ?_
  rintro e w' ⟨⟨n, d, v, h1, rfl, h2⟩ | ⟨h1, rfl⟩, hb⟩
  · have h3 := h2
    obtain ⟨a1, l1, c1, a2, l2, c2, m, rfl, _⟩ := h3
    refine ⟨a1, l1, c1, _, a2, l2, c2, _, by rw [cE, if_pos ⟨n, d, h1⟩], fun n' d' k => ?_, hb⟩
    obtain ⟨rfl, rfl⟩ := can_uniq h1 k
    exact h2
  · exact ⟨none, 0, 0, false, none, 0, 0, false, by rw [cE, if_neg (fun ⟨n, d, k⟩ => h1 n d k)], fun n d k => absurd k (h1 n d), hb⟩
theorem num_keep {w w' : World} {r : Nat} {v : Value} {z : Int} {K : Nat} {c : Array Value} {t : TypeId} {fz : Nat × Nat} (h : NumIs w v z K) (hr : w.heap[r]? = some (.cells c t fz)) (ht : t ≠ 196) (hk : ∀ b, b ≠ r → w'.heap[b]? = w.heap[b]?) : NumIs w' v z K := by
  obtain ⟨ao, l, cp, h1, sl, L, g1, g2, g3⟩ := h
  refine ⟨ao, l, cp, h1, sl, L, g1, ⟨g2.1, ?_⟩, g3⟩
  rcases g2.2 with e | ⟨g, cap, cur, hv, hb, hh, rr⟩
  · exact Or.inl e
  · refine Or.inr ⟨g, cap, cur, hv, hb, (hk g ?_).trans hh, rr⟩
    intro e
    rw [e, hr] at hh
    simp only [Option.some.injEq, Obj.cells.injEq] at hh
    exact ht hh.2.1
theorem rnum_keep {w w' : World} {r : Nat} {v : Value} {z : Int} {K : Nat} {c : Array Value} {t : TypeId} {fz : Nat × Nat} (h : RNumIs w v z K) (hr : w.heap[r]? = some (.cells c t fz)) (ht : t ≠ 3) (hk : ∀ b, b ≠ r → w'.heap[b]? = w.heap[b]?) : RNumIs w' v z K := by
  obtain ⟨ao, l, cp, h1, sl, L, g1, g2, g3⟩ := h
  refine ⟨ao, l, cp, h1, sl, L, g1, ⟨g2.1, ?_⟩, g3⟩
  rcases g2.2 with e | ⟨g, cap, cur, hv, hb, hh, rr⟩
  · exact Or.inl e
  · refine Or.inr ⟨g, cap, cur, hv, hb, (hk g ?_).trans hh, rr⟩
    intro e
    rw [e, hr] at hh
    simp only [Option.some.injEq, Obj.cells.injEq] at hh
    exact ht hh.2.1
theorem RatIs.keep {w w' : World} {r : Nat} {v : Value} {n d : Int} {K : Nat} {c : Array Value} {t : TypeId} {fz : Nat × Nat} (h : RatIs w v n d K) (hr : w.heap[r]? = some (.cells c t fz)) (ht : t ≠ 196) (hk : ∀ b, b ≠ r → w'.heap[b]? = w.heap[b]?) : RatIs w' v n d K := by
  obtain ⟨a1, l1, c1, a2, l2, c2, h1, h2, h3⟩ := h
  exact ⟨a1, l1, c1, a2, l2, c2, h1, num_keep h2 hr ht hk, num_keep h3 hr ht hk⟩
theorem TRatIs.keep {w w' : World} {r : Nat} {v : Value} {n d : Int} {K : Nat} {c : Array Value} {t : TypeId} {fz : Nat × Nat} (h : TRatIs w v n d K) (hr : w.heap[r]? = some (.cells c t fz)) (ht : t ≠ 3) (hk : ∀ b, b ≠ r → w'.heap[b]? = w.heap[b]?) : TRatIs w' v n d K := by
  obtain ⟨a1, l1, c1, a2, l2, c2, m, h1, h2, h3, h4⟩ := h
  exact ⟨a1, l1, c1, a2, l2, c2, m, h1, rnum_keep h2 hr ht hk, rnum_keep h3 hr ht hk, h4⟩
theorem end_four {w W : World} {p : Nat} {u0 u1 u2 u3 v0 v1 v2 v3 : Value} {t t' : TypeId} (hw : Below w.heap.size w W) (hp : w.heap.size ≤ p) (hx : W.heap[p]? = some (.cells #[u0, u1, u2, u3] t (0, 0))) (hy : W.heap[p + 1]? = some (.cells #[v0, v1, v2, v3] t' (0, 0))) (x0 x1 x2 x3 y0 y1 y2 y3 : Value) :
    let U := (((W.setCell ⟨p, 0, none⟩ x0).setCell ⟨p, 1, none⟩ x1).setCell ⟨p, 2, none⟩ x2).setCell ⟨p, 3, none⟩ x3
    let V := (((U.setCell ⟨p + 1, 0, none⟩ y0).setCell ⟨p + 1, 1, none⟩ y1).setCell ⟨p + 1, 2, none⟩ y2).setCell ⟨p + 1, 3, none⟩ y3
    V.heap[p]? = some (.cells #[x0, x1, x2, x3] t (0, 0)) ∧ V.heap[p + 1]? = some (.cells #[y0, y1, y2, y3] t' (0, 0)) ∧ Below w.heap.size w V ∧ U.heap[p + 1]? = some (.cells #[v0, v1, v2, v3] t' (0, 0)) := by
  intro U V
  have k1 := p4_set hx x0 x1 x2 x3
  have k2 : U.heap[p + 1]? = _ := (p4_other x0 x1 x2 x3 (p + 1) (by omega)).trans hy
  have k3 := p4_set k2 y0 y1 y2 y3
  have k4 := (p4_other (w := U) (b := p + 1) y0 y1 y2 y3 p (by omega)).trans k1
  exact ⟨k4, k3, p4_below (p4_below hw hp x0 x1 x2 x3) (by omega) y0 y1 y2 y3, k2⟩
/-- What number answers. -/
def Num3 (s : ByteArray) (e : Ending) (w' : World) : Prop := ∃ a1 l1 c1 d1 a2 l2 c2 d2 a3 l3 c3 d3 a4 l4 c4 d4 bb, e = .returned (.tuple #[.agg #[.slice a1 l1 c1, .bool d1, .slice a2 l2 c2, .bool d2], .agg #[.bool d3, .slice a3 l3 c3, .bool d4, .slice a4 l4 c4], .bool bb, .bool true]) ∧ (bb = true → ∃ n d, Can s n d ∧ RatIs w' (.agg #[.slice a1 l1 c1, .bool d1, .slice a2 l2 c2, .bool d2]) n d (s.size / 9 + 8) ∧ TRatIs w' (.agg #[.bool d3, .slice a3 l3 c3, .bool d4, .slice a4 l4 c4]) n d (s.size / 9 + 8))
end Go.Proofs.YtbmdoncdgopoaaaGreatDoor
/- Fractions: copied, Num. -/
namespace Go.Proofs.YtbmdoncdgopoaaaGreatDoor
open Go.RowKit
set_option linter.unusedVariables false
set_option maxRecDepth 100000
set_option linter.unusedSimpArgs false
attribute [local go_sem ↓] Go.wp_at_zero Go.wp_at_succ

theorem num_nought (w : World) : NumIs w (.agg #[.slice none 0 0, .bool false]) 0 0 := ⟨none, 0, 0, rfl, nat_zero w⟩
set_option maxHeartbeats 2000000 in
theorem qcopied_any (w : World) (a : Value) (z : Int) (K : Nat) (hK : K < 900000000) (ha : NumIs w a z K) :
    Calls Tryz.prog 155 #[a] w fun e w' => ∃ v, e = .returned v ∧ NumIs w' v z (K + 1) ∧ Below w.heap.size w w' := by
  obtain ⟨a1, l1, c1, b1, rfl⟩ := num_form ha
  have hx := boxed2_first w (Obj.cells #[.slice a1 l1 c1, .bool b1] 72) (Obj.cells #[.slice none 0 0, .bool false] 72)
  have hy := boxed2_second w (Obj.cells #[.slice a1 l1 c1, .bool b1] 72) (Obj.cells #[.slice none 0 0, .bool false] 72)
  have hB := boxed2 (Below.refl w.heap.size w) (Obj.cells #[.slice a1 l1 c1, .bool b1] 72) (Obj.cells #[.slice none 0 0, .bool false] 72)
  have Na := ha.below hB
  go_enter Tryz.func155, Tryz.ntmps155
  have x0 := two_cell0 hx
  have x1 := two_cell1 hx
  go_wp2_with fail
  generalize (w.alloc (Obj.cells #[.slice a1 l1 c1, .bool b1] 72)).alloc (Obj.cells #[.slice none 0 0, .bool false] 72) = W at *
  refine (nadd_any _ _ _ z 0 K 0 (by omega) (by omega) Na (num_nought _)).mono ?_
  rintro e w2 ⟨v2, rfl, n2, hb2⟩
  obtain ⟨ao, lo, co, dd, rfl⟩ := num_form n2
  have y1 := box_below hb2 hy (lt_of_block hy)
  have u0 := two_cell0 y1
  have u1 := two_cell1 y1
  have f0 := two_free (k := 0) y1
  have f1 := two_free (k := 1) y1
  obtain ⟨o1, o2, o3⟩ := end_two (chain2 hB hb2) (show w.heap.size ≤ w.heap.size + 1 by omega) y1 (.slice ao lo co) (.bool dd)
  have n3 := n2.box2 y1 (by decide) (.slice ao lo co) (.bool dd)
  rw [Int.add_zero] at n3
  have HO := hid (And.intro o1 (And.intro o2 o3))
  clear o1 o2 o3 n2
  go_wp2
  exact bodyPost_ret (v := .agg #[.slice ao lo co, .bool dd]) (by simp [results, Tryz.results155, go_sem, HO.out.1, HO.out.2.1]) rfl ⟨_, rfl, n3.mono (by omega), HO.out.2.2⟩
end Go.Proofs.YtbmdoncdgopoaaaGreatDoor
/- Fractions: Of, Sign, Neg, the program's and the document's. -/
namespace Go.Proofs.YtbmdoncdgopoaaaGreatDoor
open Go.RowKit
set_option linter.unusedVariables false
set_option maxRecDepth 100000
set_option linter.unusedSimpArgs false
attribute [local go_sem ↓] Go.wp_at_zero Go.wp_at_succ

theorem rat_of {w : World} {a1 a2 : Option Addr} {l1 c1 l2 c2 : Nat} {d1 d2 : Bool} {n d : Int} {K : Nat} (h1 : NumIs w (.agg #[.slice a1 l1 c1, .bool d1]) n K) (h2 : NumIs w (.agg #[.slice a2 l2 c2, .bool d2]) (d - 1) K) : RatIs w (.agg #[.slice a1 l1 c1, .bool d1, .slice a2 l2 c2, .bool d2]) n d K := by
  have e1 := num_bool h1
  have e2 := num_bool h2
  subst e1; subst e2
  exact ⟨a1, l1, c1, a2, l2, c2, rfl, h1, h2⟩
theorem p4_cells {w : World} {b : Nat} {y0 y1 y2 y3 : Value} {t : TypeId} (h : w.heap[b]? = some (.cells #[y0, y1, y2, y3] t (0, 0))) (x0 x1 x2 x3 : Value) : ((((w.setCell ⟨b, 0, none⟩ x0).setCell ⟨b, 1, none⟩ x1).setCell ⟨b, 2, none⟩ x2).setCell ⟨b, 3, none⟩ x3).cell? ⟨b, 0, none⟩ = some x0 ∧ ((((w.setCell ⟨b, 0, none⟩ x0).setCell ⟨b, 1, none⟩ x1).setCell ⟨b, 2, none⟩ x2).setCell ⟨b, 3, none⟩ x3).cell? ⟨b, 1, none⟩ = some x1 ∧ ((((w.setCell ⟨b, 0, none⟩ x0).setCell ⟨b, 1, none⟩ x1).setCell ⟨b, 2, none⟩ x2).setCell ⟨b, 3, none⟩ x3).cell? ⟨b, 2, none⟩ = some x2 ∧ ((((w.setCell ⟨b, 0, none⟩ x0).setCell ⟨b, 1, none⟩ x1).setCell ⟨b, 2, none⟩ x2).setCell ⟨b, 3, none⟩ x3).cell? ⟨b, 3, none⟩ = some x3 := four_cell (p4_set h x0 x1 x2 x3)
set_option maxHeartbeats 2000000 in
theorem qsign_any (w : World) (v : Value) (n d : Int) (K : Nat) (hK : K < 900000000) (h : RatIs w v n d K) :
    Calls Tryz.prog 88 #[v] w fun e w' => e = .returned (.int .i64 (signZ n)) ∧ Below w.heap.size w w' := by
  obtain ⟨a1, l1, c1, a2, l2, c2, rfl, h2, h3⟩ := h
  generalize decide (n < 0) = b1 at *
  generalize decide (d - 1 < 0) = b2 at *
  have hx := box_new w (Obj.cells #[.slice a1 l1 c1, .bool b1, .slice a2 l2 c2, .bool b2] 74)
  have hB : Below w.heap.size w (w.alloc (Obj.cells #[.slice a1 l1 c1, .bool b1, .slice a2 l2 c2, .bool b2] 74)) := (Below.refl _ _).alloc (Nat.le_refl _) _
  have Na := h2.below hB
  clear h3 h2
  obtain ⟨x0, x1, x2, x3⟩ := four_cell hx
  go_enter Tryz.func88, Tryz.ntmps88
  go_wp2_with fail
  refine (nsign_any _ _ n K (by omega) Na).mono ?_
  rintro e w2 ⟨rfl, hb2⟩
  have B2 := chain2 hB hb2
  go_wp2
  go_ret
  exact ⟨rfl, B2⟩
set_option maxHeartbeats 2000000 in
theorem tsign_any (w : World) (v : Value) (n d : Int) (K : Nat) (hK : K < 900000000) (h : TRatIs w v n d K) :
    Calls Tryz.prog 92 #[v] w fun e w' => e = .returned (.int .i64 (signZ n)) ∧ Below w.heap.size w w' := by
  obtain ⟨a1, l1, c1, a2, l2, c2, m, rfl, h2, h3, h4⟩ := h
  generalize decide (n < 0) = b1 at *
  generalize decide (m < 0) = b2 at *
  have hx := box_new w (Obj.cells #[.bool b1, .slice a1 l1 c1, .bool b2, .slice a2 l2 c2] 35)
  have hB : Below w.heap.size w (w.alloc (Obj.cells #[.bool b1, .slice a1 l1 c1, .bool b2, .slice a2 l2 c2] 35)) := (Below.refl _ _).alloc (Nat.le_refl _) _
  have Na := h2.below hB
  clear h3 h2 h4
  obtain ⟨x0, x1, x2, x3⟩ := four_cell hx
  go_enter Tryz.func92, Tryz.ntmps92
  go_wp2_with fail
  refine (ssign_any _ _ n K (by omega) Na).mono ?_
  rintro e w2 ⟨rfl, hb2⟩
  have B2 := chain2 hB hb2
  go_wp2
  go_ret
  exact ⟨rfl, B2⟩
set_option maxHeartbeats 2000000 in
theorem qof_any (w : World) (z : Int) (h1 : -9223372036854775808 ≤ z) (h2 : z < 9223372036854775808) :
    Calls Tryz.prog 62 #[.int .i64 z] w fun e w' => ∃ v, e = .returned v ∧ RatIs w' v z 1 2 ∧ Below w.heap.size w w' := by
  have hy := box_new w (Obj.cells #[.slice none 0 0, .bool false, .slice none 0 0, .bool false] 74)
  have hB : Below w.heap.size w (w.alloc (Obj.cells #[.slice none 0 0, .bool false, .slice none 0 0, .bool false] 74)) := (Below.refl _ _).alloc (Nat.le_refl _) _
  go_enter Tryz.func62, Tryz.ntmps62
  go_wp2_with fail
  generalize w.alloc (Obj.cells #[.slice none 0 0, .bool false, .slice none 0 0, .bool false] 74) = W at *
  refine (nof_any W z h1 h2).mono ?_
  rintro e w2 ⟨v2, rfl, n2, hb2⟩
  obtain ⟨ao, lo, co, dd, rfl⟩ := num_form n2
  have y1 := box_below hb2 hy (lt_of_block hy)
  obtain ⟨i0, i1, i2, i3⟩ := four_cell y1
  have fr := p4_free y1
  have o1 := p4_cells y1 (.slice ao lo co) (.bool dd) (.slice none 0 0) (.bool false)
  have o2 := p4_below (chain2 hB hb2) (Nat.le_refl _) (.slice ao lo co) (.bool dd) (.slice none 0 0) (.bool false)
  have o3 := (rat_of n2 (d := 1) ((num_nought w2).mono (Nat.zero_le _))).keep y1 (by decide) (p4_other (.slice ao lo co) (.bool dd) (.slice none 0 0) (.bool false))
  have HO := hid (And.intro o1 (And.intro o2 o3))
  clear o1 o2 o3 n2
  go_wp2
  obtain ⟨⟨g0, g1, g2, g3⟩, o2, o3⟩ := HO.out
  exact bodyPost_ret (v := .agg #[.slice ao lo co, .bool dd, .slice none 0 0, .bool false]) (by simp [results, Tryz.results62, go_sem, g0, g1, g2, g3]) rfl ⟨_, rfl, o3, o2⟩
set_option maxHeartbeats 2000000 in
theorem tof_any (w : World) (z : Int) (h1 : -9223372036854775808 ≤ z) (h2 : z < 9223372036854775808) :
    Calls Tryz.prog 8 #[.int .i64 z] w fun e w' => ∃ v, e = .returned v ∧ TRatIs w' v z 1 3 ∧ Below w.heap.size w w' := by
  have hy := box_new w (Obj.cells #[.bool false, .slice none 0 0, .bool false, .slice none 0 0] 35)
  have hB : Below w.heap.size w (w.alloc (Obj.cells #[.bool false, .slice none 0 0, .bool false, .slice none 0 0] 35)) := (Below.refl _ _).alloc (Nat.le_refl _) _
  go_enter Tryz.func8, Tryz.ntmps8
  go_wp2_with fail
  generalize w.alloc (Obj.cells #[.bool false, .slice none 0 0, .bool false, .slice none 0 0] 35) = W at *
  refine (sof_any _ z h1 h2).mono ?_
  rintro e w2 ⟨v2, rfl, n2, B1⟩
  obtain ⟨a2, l2, c2, d2, rfl⟩ := rnum_form n2
  go_wp2_with fail
  refine (sof_any _ 1 (by omega) (by omega)).mono ?_
  rintro e w3 ⟨v3, rfl, n3, b3⟩
  obtain ⟨a3, l3, c3, d3, rfl⟩ := rnum_form n3
  have B3 := chain2 B1 b3
  have y3 := box_below B3 hy (lt_of_block hy)
  obtain ⟨i0, i1, i2, i3⟩ := four_cell y3
  have fr := p4_free y3
  have o1 := p4_cells y3 (.bool d2) (.slice a2 l2 c2) (.bool d3) (.slice a3 l3 c3)
  have o2 := p4_below (chain2 hB B3) (Nat.le_refl _) (.bool d2) (.slice a2 l2 c2) (.bool d3) (.slice a3 l3 c3)
  have o3 := (trat_of (n2.below b3) n3 (by omega)).keep y3 (by decide) (p4_other (.bool d2) (.slice a2 l2 c2) (.bool d3) (.slice a3 l3 c3))
  have HO := hid (And.intro o1 (And.intro o2 o3))
  clear o1 o2 o3 n2 n3
  go_wp2
  obtain ⟨⟨g0, g1, g2, g3⟩, o2, o3⟩ := HO.out
  exact bodyPost_ret (v := .agg #[.bool d2, .slice a2 l2 c2, .bool d3, .slice a3 l3 c3]) (by simp [results, Tryz.results8, go_sem, g0, g1, g2, g3]) rfl ⟨_, rfl, o3, o2⟩
set_option maxHeartbeats 4000000 in
theorem qneg_any (w : World) (v : Value) (n d : Int) (K : Nat) (hK : K < 900000000) (h : RatIs w v n d K) :
    Calls Tryz.prog 125 #[v] w fun e w' => ∃ v, e = .returned v ∧ RatIs w' v (-n) d (K + 1) ∧ Below w.heap.size w w' := by
  obtain ⟨a1, l1, c1, a2, l2, c2, rfl, h2, h3⟩ := h
  generalize decide (n < 0) = b1 at *
  generalize decide (d - 1 < 0) = b2 at *
  have hx := boxed2_first w (Obj.cells #[.slice a1 l1 c1, .bool b1, .slice a2 l2 c2, .bool b2] 74) (Obj.cells #[.slice none 0 0, .bool false, .slice none 0 0, .bool false] 74)
  have hy := boxed2_second w (Obj.cells #[.slice a1 l1 c1, .bool b1, .slice a2 l2 c2, .bool b2] 74) (Obj.cells #[.slice none 0 0, .bool false, .slice none 0 0, .bool false] 74)
  have hB := boxed2 (Below.refl w.heap.size w) (Obj.cells #[.slice a1 l1 c1, .bool b1, .slice a2 l2 c2, .bool b2] 74) (Obj.cells #[.slice none 0 0, .bool false, .slice none 0 0, .bool false] 74)
  have Na := h2.below hB
  have Nb := h3.below hB
  clear h3 h2
  go_enter Tryz.func125, Tryz.ntmps125
  go_wp2
  generalize (w.alloc (Obj.cells #[.slice a1 l1 c1, .bool b1, .slice a2 l2 c2, .bool b2] 74)).alloc (Obj.cells #[.slice none 0 0, .bool false, .slice none 0 0, .bool false] 74) = W at *
  obtain ⟨x0, x1, x2, x3⟩ := four_cell hx
  have B0 : Below W.heap.size W W.drew := (Below.refl _ _).drew
  have ne : w.heap.size ≠ w.heap.size + 1 := by omega
  go_region_held3 (fun w' => w'.cell? ⟨w.heap.size, 0, none⟩ = some (.slice a1 l1 c1) ∧ w'.cell? ⟨w.heap.size, 1, none⟩ = some (.bool b1) ∧ w'.cell? ⟨w.heap.size, 2, none⟩ = some (.slice a2 l2 c2) ∧ w'.cell? ⟨w.heap.size, 3, none⟩ = some (.bool b2)) (first | exact ⟨x0, x1, x2, x3⟩ | exact keep4' x0 x1 x2 x3 B1 | exact keep4' x0 x1 x2 x3 B3 | exact K3) (first
    | (have gk := B1; go_at_call 155; refine (qcopied_any _ _ (d - 1) K (by omega) (Nb.below B1)).mono ?_; rintro e w3 ⟨v3, rfl, n3, b3⟩; obtain ⟨a4, l4, c4, d4, rfl⟩ := num_form n3; have B3 := chain2 B1 b3; have y3 := box_below B3 hy (lt_of_block hy); obtain ⟨i0, i1, i2, i3⟩ := four_cell y3; have fr := p4_free y3; have K2 := keep4' x0 x1 x2 x3 B3; have K3 := (show _ ∧ _ ∧ _ ∧ _ from ⟨p4_keep K2.1 ne (.slice a3 l3 c3) (.bool d3) (.slice a4 l4 c4) (.bool d4), p4_keep K2.2.1 ne (.slice a3 l3 c3) (.bool d3) (.slice a4 l4 c4) (.bool d4), p4_keep K2.2.2.1 ne (.slice a3 l3 c3) (.bool d3) (.slice a4 l4 c4) (.bool d4), p4_keep K2.2.2.2 ne (.slice a3 l3 c3) (.bool d3) (.slice a4 l4 c4) (.bool d4)⟩))
    | (go_at_call 154; refine (nneg_any _ _ n K (by omega) (Na.below B0)).mono ?_; rintro e w2 ⟨v2, rfl, n2, b2'⟩; obtain ⟨a3, l3, c3, d3, rfl⟩ := num_form n2; have B1 := chain2 B0 b2'))
  all_goals
    have o1 := p4_cells y3 (.slice a3 l3 c3) (.bool d3) (.slice a4 l4 c4) (.bool d4)
    have o2 := p4_below (chain2 hB B3) (show w.heap.size ≤ w.heap.size + 1 by omega) (.slice a3 l3 c3) (.bool d3) (.slice a4 l4 c4) (.bool d4)
    have o3 := (rat_of (n2.below b3) n3).keep y3 (by decide) (p4_other (.slice a3 l3 c3) (.bool d3) (.slice a4 l4 c4) (.bool d4))
    have HO := hid (And.intro o1 (And.intro o2 o3))
    clear o1 o2 o3 n2 n3 i0 i1 i2 i3 fr y3 K2 K3
    generalize (((w3.setCell ⟨w.heap.size + 1, 0, none⟩ (.slice a3 l3 c3)).setCell ⟨w.heap.size + 1, 1, none⟩ (.bool d3)).setCell ⟨w.heap.size + 1, 2, none⟩ (.slice a4 l4 c4)).setCell ⟨w.heap.size + 1, 3, none⟩ (.bool d4) = X at *
    go_wp2
    obtain ⟨⟨g0, g1, g2, g3⟩, o2, o3⟩ := HO.out
    exact bodyPost_ret (v := .agg #[.slice a3 l3 c3, .bool d3, .slice a4 l4 c4, .bool d4]) (by simp [results, Tryz.results125, go_sem, g0, g1, g2, g3]) rfl ⟨_, rfl, o3, o2⟩
set_option maxHeartbeats 4000000 in
theorem tneg_any (w : World) (v : Value) (n d : Int) (K : Nat) (hK : K ≤ 400000000) (hd : d ≠ 0) (h : TRatIs w v n d K) :
    Calls Tryz.prog 67 #[v] w fun e w' => ∃ v, e = .returned v ∧ TRatIs w' v (-n) d (K + 3) ∧ Below w.heap.size w w' := by
  have h0 := h
  obtain ⟨a1, l1, c1, a2, l2, c2, m, rfl, h2, h3, h4⟩ := h
  generalize decide (n < 0) = b1 at *
  generalize decide (m < 0) = b2 at *
  have hx := boxed2_first w (Obj.cells #[.bool b1, .slice a1 l1 c1, .bool b2, .slice a2 l2 c2] 35) (Obj.cells #[.bool false, .slice none 0 0, .bool false, .slice none 0 0] 35)
  have hy := boxed2_second w (Obj.cells #[.bool b1, .slice a1 l1 c1, .bool b2, .slice a2 l2 c2] 35) (Obj.cells #[.bool false, .slice none 0 0, .bool false, .slice none 0 0] 35)
  have hB := boxed2 (Below.refl w.heap.size w) (Obj.cells #[.bool b1, .slice a1 l1 c1, .bool b2, .slice a2 l2 c2] 35) (Obj.cells #[.bool false, .slice none 0 0, .bool false, .slice none 0 0] 35)
  have Na := h2.below hB
  have Nb := h0.below hB
  clear h3 h2 h4 h0
  go_enter Tryz.func67, Tryz.ntmps67
  go_wp2
  generalize (w.alloc (Obj.cells #[.bool b1, .slice a1 l1 c1, .bool b2, .slice a2 l2 c2] 35)).alloc (Obj.cells #[.bool false, .slice none 0 0, .bool false, .slice none 0 0] 35) = W at *
  obtain ⟨x0, x1, x2, x3⟩ := four_cell hx
  have B0 : Below W.heap.size W W.drew := (Below.refl _ _).drew
  have ne : w.heap.size ≠ w.heap.size + 1 := by omega
  go_region_held3 (fun w' => w'.cell? ⟨w.heap.size, 0, none⟩ = some (.bool b1) ∧ w'.cell? ⟨w.heap.size, 1, none⟩ = some (.slice a1 l1 c1) ∧ w'.cell? ⟨w.heap.size, 2, none⟩ = some (.bool b2) ∧ w'.cell? ⟨w.heap.size, 3, none⟩ = some (.slice a2 l2 c2)) (first | exact ⟨x0, x1, x2, x3⟩ | exact keep4' x0 x1 x2 x3 B1 | exact keep4' x0 x1 x2 x3 B3 | exact K3) (first
    | (have gk := B1; go_at_call 24; refine (tden_any _ _ n d K (by omega) (Nb.below B1)).mono ?_; rintro e w3 ⟨v3, rfl, n3, b3⟩; obtain ⟨a4, l4, c4, d4, rfl⟩ := rnum_form n3; have B3 := chain2 B1 b3; have y3 := box_below B3 hy (lt_of_block hy); obtain ⟨i0, i1, i2, i3⟩ := four_cell y3; have fr := p4_free y3; have K2 := keep4' x0 x1 x2 x3 B3; have K3 := (show _ ∧ _ ∧ _ ∧ _ from ⟨p4_keep K2.1 ne (.bool d3) (.slice a3 l3 c3) (.bool d4) (.slice a4 l4 c4), p4_keep K2.2.1 ne (.bool d3) (.slice a3 l3 c3) (.bool d4) (.slice a4 l4 c4), p4_keep K2.2.2.1 ne (.bool d3) (.slice a3 l3 c3) (.bool d4) (.slice a4 l4 c4), p4_keep K2.2.2.2 ne (.bool d3) (.slice a3 l3 c3) (.bool d4) (.slice a4 l4 c4)⟩))
    | (go_at_call 116; refine (sneg_any _ _ n K (by omega) (Na.below B0)).mono ?_; rintro e w2 ⟨v2, rfl, n2, b2'⟩; obtain ⟨a3, l3, c3, d3, rfl⟩ := rnum_form n2; have B1 := chain2 B0 b2'))
  all_goals
    have o1 := p4_cells y3 (.bool d3) (.slice a3 l3 c3) (.bool d4) (.slice a4 l4 c4)
    have o2 := p4_below (chain2 hB B3) (show w.heap.size ≤ w.heap.size + 1 by omega) (.bool d3) (.slice a3 l3 c3) (.bool d4) (.slice a4 l4 c4)
    have o3 := (trat_of ((n2.below b3).mono (show K ≤ K + 3 by omega)) n3 hd).keep y3 (by decide) (p4_other (.bool d3) (.slice a3 l3 c3) (.bool d4) (.slice a4 l4 c4))
    have HO := hid (And.intro o1 (And.intro o2 o3))
    clear o1 o2 o3 n2 n3 i0 i1 i2 i3 fr y3 K2 K3
    generalize (((w3.setCell ⟨w.heap.size + 1, 0, none⟩ (.bool d3)).setCell ⟨w.heap.size + 1, 1, none⟩ (.slice a3 l3 c3)).setCell ⟨w.heap.size + 1, 2, none⟩ (.bool d4)).setCell ⟨w.heap.size + 1, 3, none⟩ (.slice a4 l4 c4) = X at *
    go_wp2
    obtain ⟨⟨g0, g1, g2, g3⟩, o2, o3⟩ := HO.out
    exact bodyPost_ret (v := .agg #[.bool d3, .slice a3 l3 c3, .bool d4, .slice a4 l4 c4]) (by simp [results, Tryz.results67, go_sem, g0, g1, g2, g3]) rfl ⟨_, rfl, o3, o2⟩
end Go.Proofs.YtbmdoncdgopoaaaGreatDoor
/- Fractions: Mul, Div, levelled, Cmp. -/
namespace Go.Proofs.YtbmdoncdgopoaaaGreatDoor
open Go.RowKit
set_option linter.unusedVariables false
set_option maxRecDepth 100000
set_option linter.unusedSimpArgs false
attribute [local go_sem ↓] Go.wp_at_zero Go.wp_at_succ

theorem p4_keepQ {X : World} {p q r : Nat} {x0 x1 x2 x3 y0 y1 y2 y3 : Value} (h : X.cell? ⟨p, 0, none⟩ = some x0 ∧ X.cell? ⟨p, 1, none⟩ = some x1 ∧ X.cell? ⟨p, 2, none⟩ = some x2 ∧ X.cell? ⟨p, 3, none⟩ = some x3 ∧ X.cell? ⟨q, 0, none⟩ = some y0 ∧ X.cell? ⟨q, 1, none⟩ = some y1 ∧ X.cell? ⟨q, 2, none⟩ = some y2 ∧ X.cell? ⟨q, 3, none⟩ = some y3) (h1 : p ≠ r) (h2 : q ≠ r) (v0 v1 v2 v3 : Value) :
    let Y := (((X.setCell ⟨r, 0, none⟩ v0).setCell ⟨r, 1, none⟩ v1).setCell ⟨r, 2, none⟩ v2).setCell ⟨r, 3, none⟩ v3
    Y.cell? ⟨p, 0, none⟩ = some x0 ∧ Y.cell? ⟨p, 1, none⟩ = some x1 ∧ Y.cell? ⟨p, 2, none⟩ = some x2 ∧ Y.cell? ⟨p, 3, none⟩ = some x3 ∧ Y.cell? ⟨q, 0, none⟩ = some y0 ∧ Y.cell? ⟨q, 1, none⟩ = some y1 ∧ Y.cell? ⟨q, 2, none⟩ = some y2 ∧ Y.cell? ⟨q, 3, none⟩ = some y3 :=
  ⟨p4_keep h.1 h1 _ _ _ _, p4_keep h.2.1 h1 _ _ _ _, p4_keep h.2.2.1 h1 _ _ _ _, p4_keep h.2.2.2.1 h1 _ _ _ _, p4_keep h.2.2.2.2.1 h2 _ _ _ _, p4_keep h.2.2.2.2.2.1 h2 _ _ _ _, p4_keep h.2.2.2.2.2.2.1 h2 _ _ _ _, p4_keep h.2.2.2.2.2.2.2 h2 _ _ _ _⟩
theorem two_keepQ {X : World} {p q r : Nat} {x0 x1 x2 x3 y0 y1 y2 y3 : Value} (h : X.cell? ⟨p, 0, none⟩ = some x0 ∧ X.cell? ⟨p, 1, none⟩ = some x1 ∧ X.cell? ⟨p, 2, none⟩ = some x2 ∧ X.cell? ⟨p, 3, none⟩ = some x3 ∧ X.cell? ⟨q, 0, none⟩ = some y0 ∧ X.cell? ⟨q, 1, none⟩ = some y1 ∧ X.cell? ⟨q, 2, none⟩ = some y2 ∧ X.cell? ⟨q, 3, none⟩ = some y3) (h1 : p ≠ r) (h2 : q ≠ r) (v0 v1 : Value) :
    let Y := (X.setCell ⟨r, 0, none⟩ v0).setCell ⟨r, 1, none⟩ v1
    Y.cell? ⟨p, 0, none⟩ = some x0 ∧ Y.cell? ⟨p, 1, none⟩ = some x1 ∧ Y.cell? ⟨p, 2, none⟩ = some x2 ∧ Y.cell? ⟨p, 3, none⟩ = some x3 ∧ Y.cell? ⟨q, 0, none⟩ = some y0 ∧ Y.cell? ⟨q, 1, none⟩ = some y1 ∧ Y.cell? ⟨q, 2, none⟩ = some y2 ∧ Y.cell? ⟨q, 3, none⟩ = some y3 :=
  ⟨two_keep0 h.1 h1 _ _, two_keep0 h.2.1 h1 _ _, two_keep0 h.2.2.1 h1 _ _, two_keep0 h.2.2.2.1 h1 _ _, two_keep0 h.2.2.2.2.1 h2 _ _, two_keep0 h.2.2.2.2.2.1 h2 _ _, two_keep0 h.2.2.2.2.2.2.1 h2 _ _, two_keep0 h.2.2.2.2.2.2.2 h2 _ _⟩
theorem RatIs.top {w : World} {a1 a2 : Option Addr} {l1 c1 l2 c2 : Nat} {b1 b2 : Bool} {n d : Int} {K : Nat} (h : RatIs w (.agg #[.slice a1 l1 c1, .bool b1, .slice a2 l2 c2, .bool b2]) n d K) : NumIs w (.agg #[.slice a1 l1 c1, .bool b1]) n K := by
  obtain ⟨_, _, _, _, _, _, e, k1, _⟩ := h
  simp only [Value.agg.injEq, Array.mk.injEq, List.cons.injEq] at e
  rw [e.1, e.2.1]; exact k1
set_option maxHeartbeats 8000000 in
theorem qmul_any (w : World) (a b : Value) (n1 d1 n2 d2 : Int) (K : Nat) (hK : K ≤ 1000000) (ha : RatIs w a n1 d1 K) (hb : RatIs w b n2 d2 K) (h0 : d1 * d2 ≠ 0) :
    Calls Tryz.prog 61 #[a, b] w fun e w' => ∃ v, e = .returned v ∧ RatIs w' v (lowN (n1 * n2) (d1 * d2)) (lowD (n1 * n2) (d1 * d2)) (2 * K + 12) ∧ Below w.heap.size w w' := by
  have ha0 := ha
  have hb0 := hb
  obtain ⟨a1, l1, c1, a2, l2, c2, rfl, h1, _⟩ := ha
  obtain ⟨a3, l3, c3, a4, l4, c4, rfl, h3, _⟩ := hb
  generalize decide (n1 < 0) = b1 at *
  generalize decide (d1 - 1 < 0) = b2 at *
  generalize decide (n2 < 0) = b3 at *
  generalize decide (d2 - 1 < 0) = b4 at *
  have hx := boxed3_first w (Obj.cells #[.slice a1 l1 c1, .bool b1, .slice a2 l2 c2, .bool b2] 74) (Obj.cells #[.slice a3 l3 c3, .bool b3, .slice a4 l4 c4, .bool b4] 74) (Obj.cells #[.slice none 0 0, .bool false, .slice none 0 0, .bool false] 74)
  have hy := boxed3_second w (Obj.cells #[.slice a1 l1 c1, .bool b1, .slice a2 l2 c2, .bool b2] 74) (Obj.cells #[.slice a3 l3 c3, .bool b3, .slice a4 l4 c4, .bool b4] 74) (Obj.cells #[.slice none 0 0, .bool false, .slice none 0 0, .bool false] 74)
  have hz := boxed3_third w (Obj.cells #[.slice a1 l1 c1, .bool b1, .slice a2 l2 c2, .bool b2] 74) (Obj.cells #[.slice a3 l3 c3, .bool b3, .slice a4 l4 c4, .bool b4] 74) (Obj.cells #[.slice none 0 0, .bool false, .slice none 0 0, .bool false] 74)
  have hB := boxed3 (Below.refl w.heap.size w) (Obj.cells #[.slice a1 l1 c1, .bool b1, .slice a2 l2 c2, .bool b2] 74) (Obj.cells #[.slice a3 l3 c3, .bool b3, .slice a4 l4 c4, .bool b4] 74) (Obj.cells #[.slice none 0 0, .bool false, .slice none 0 0, .bool false] 74)
  have Na := h1.below hB
  have Nc := h3.below hB
  have Ra := ha0.below hB
  have Rb := hb0.below hB
  clear h1 h3 ha0 hb0
  go_enter Tryz.func61, Tryz.ntmps61
  go_wp2
  generalize ((w.alloc (Obj.cells #[.slice a1 l1 c1, .bool b1, .slice a2 l2 c2, .bool b2] 74)).alloc (Obj.cells #[.slice a3 l3 c3, .bool b3, .slice a4 l4 c4, .bool b4] 74)).alloc (Obj.cells #[.slice none 0 0, .bool false, .slice none 0 0, .bool false] 74) = W at *
  obtain ⟨t1, t2, t3, t4⟩ := four_cell hx
  obtain ⟨t5, t6, t7, t8⟩ := four_cell hy
  have B0 : Below W.heap.size W W.drew := (Below.refl _ _).drew
  have ne1 : w.heap.size ≠ w.heap.size + 1 + 1 := by omega
  have ne2 : w.heap.size + 1 ≠ w.heap.size + 1 + 1 := by omega
  have hle : w.heap.size ≤ w.heap.size + 1 + 1 := by omega
  go_region_held3 (fun w' => w'.cell? ⟨w.heap.size, 0, none⟩ = some (Value.slice a1 l1 c1) ∧ w'.cell? ⟨w.heap.size, 1, none⟩ = some (Value.bool b1) ∧ w'.cell? ⟨w.heap.size, 2, none⟩ = some (Value.slice a2 l2 c2) ∧ w'.cell? ⟨w.heap.size, 3, none⟩ = some (Value.bool b2) ∧ w'.cell? ⟨w.heap.size + 1, 0, none⟩ = some (Value.slice a3 l3 c3) ∧ w'.cell? ⟨w.heap.size + 1, 1, none⟩ = some (Value.bool b3) ∧ w'.cell? ⟨w.heap.size + 1, 2, none⟩ = some (Value.slice a4 l4 c4) ∧ w'.cell? ⟨w.heap.size + 1, 3, none⟩ = some (Value.bool b4)) ((first | exact K3 | (refine keepQ t1 t2 t3 t4 t5 t6 t7 t8 ?_; first | exact B0 | exact B1 | exact B2 | exact B3 | exact B4 | exact B5))) (first
    | (have gk := B4; go_at_call 108; refine (qlow_any _ _ _ (n1 * n2) (d1 * d2) (2 * K + 6) (by omega) h0 ((n101.below (chain2 (chain2 hb102 hb103) hb104)).mono (by omega)) (n104.mono (by omega))).mono ?_; rintro e w105 ⟨v105, rfl, n105, hb105⟩; have B5 := chain2 B4 hb105; obtain ⟨a5, l5, c5, b5, a6, l6, c6, b6, rfl⟩ := rat_form n105; have zr := box_below B5 hz (lt_of_block hz); obtain ⟨i0, i1, i2, i3⟩ := four_cell zr; have fr := p4_free zr; have K3 := p4_keepQ (keepQ t1 t2 t3 t4 t5 t6 t7 t8 B5) ne1 ne2 (.slice a5 l5 c5) (.bool b5) (.slice a6 l6 c6) (.bool b6))
    | (have gk := B3; go_at_call 109; refine (nmul_any _ _ _ d1 d2 (K + 3) (K + 3) (by omega) (by omega) (n102.below hb103) n103).mono ?_; rintro e w104 ⟨v104, rfl, n104, hb104⟩; have B4 := chain2 B3 hb104)
    | (have gk := B2; go_at_call 110; refine (qden_any _ _ n2 d2 K (by omega) (Rb.below B2)).mono ?_; rintro e w103 ⟨v103, rfl, n103, hb103⟩; have B3 := chain2 B2 hb103)
    | (have gk := B1; go_at_call 110; refine (qden_any _ _ n1 d1 K (by omega) (Ra.below B1)).mono ?_; rintro e w102 ⟨v102, rfl, n102, hb102⟩; have B2 := chain2 B1 hb102)
    | (have gk := B0; go_at_call 109; refine (nmul_any _ _ _ n1 n2 K K (by omega) (by omega) (Na.below B0) (Nc.below B0)).mono ?_; rintro e w101 ⟨v101, rfl, n101, hb101⟩; have B1 := chain2 B0 hb101))
  all_goals
    have o1 := p4_cells zr (.slice a5 l5 c5) (.bool b5) (.slice a6 l6 c6) (.bool b6)
    have o2 := p4_below (chain2 hB B5) hle (.slice a5 l5 c5) (.bool b5) (.slice a6 l6 c6) (.bool b6)
    have o3 := (n105).keep zr (by decide) (p4_other (.slice a5 l5 c5) (.bool b5) (.slice a6 l6 c6) (.bool b6))
    have HO := hid (And.intro o1 (And.intro o2 o3))
    clear o1 o2 o3 i0 i1 i2 i3 fr zr K3
    generalize (((w105.setCell ⟨w.heap.size + 1 + 1, 0, none⟩ (.slice a5 l5 c5)).setCell ⟨w.heap.size + 1 + 1, 1, none⟩ (.bool b5)).setCell ⟨w.heap.size + 1 + 1, 2, none⟩ (.slice a6 l6 c6)).setCell ⟨w.heap.size + 1 + 1, 3, none⟩ (.bool b6) = X at *
    go_wp2
    obtain ⟨⟨g0, g1, g2, g3⟩, o2, o3⟩ := HO.out
    exact bodyPost_ret (v := .agg #[.slice a5 l5 c5, .bool b5, .slice a6 l6 c6, .bool b6]) (by simp [results, Tryz.results61, go_sem, g0, g1, g2, g3]) rfl ⟨_, rfl, o3, o2⟩
end Go.Proofs.YtbmdoncdgopoaaaGreatDoor
/- Fractions: levelled, Cmp. -/
namespace Go.Proofs.YtbmdoncdgopoaaaGreatDoor
open Go.RowKit
set_option linter.unusedVariables false
set_option maxRecDepth 100000
set_option linter.unusedSimpArgs false
attribute [local go_sem ↓] Go.wp_at_zero Go.wp_at_succ

set_option maxHeartbeats 8000000 in
theorem qlevelled_any (w : World) (a b : Value) (n1 d1 n2 d2 : Int) (K : Nat) (hK : K ≤ 1000000) (ha : RatIs w a n1 d1 K) (hb : RatIs w b n2 d2 K) :
    Calls Tryz.prog 129 #[a, b] w fun e w' => (∃ a5 l5 c5 b5 a6 l6 c6 b6, e = .returned (.tuple #[.agg #[.slice a5 l5 c5, .bool b5], .agg #[.slice a6 l6 c6, .bool b6]]) ∧ NumIs w' (.agg #[.slice a5 l5 c5, .bool b5]) (n1 * d2) (2 * K + 3) ∧ NumIs w' (.agg #[.slice a6 l6 c6, .bool b6]) (n2 * d1) (2 * K + 3)) ∧ Below w.heap.size w w' := by
  have ha0 := ha
  have hb0 := hb
  obtain ⟨a1, l1, c1, a2, l2, c2, rfl, h1, _⟩ := ha
  obtain ⟨a3, l3, c3, a4, l4, c4, rfl, h3, _⟩ := hb
  generalize decide (n1 < 0) = b1 at *
  generalize decide (d1 - 1 < 0) = b2 at *
  generalize decide (n2 < 0) = b3 at *
  generalize decide (d2 - 1 < 0) = b4 at *
  obtain ⟨hB, hx, hy, hz, hq, _⟩ := boxed4 w (Obj.cells #[.slice a1 l1 c1, .bool b1, .slice a2 l2 c2, .bool b2] 74) (Obj.cells #[.slice a3 l3 c3, .bool b3, .slice a4 l4 c4, .bool b4] 74) (Obj.cells #[.slice none 0 0, .bool false] 72) (Obj.cells #[.slice none 0 0, .bool false] 72)
  have Na := h1.below hB
  have Nc := h3.below hB
  have Ra := ha0.below hB
  have Rb := hb0.below hB
  clear h1 h3 ha0 hb0
  go_enter Tryz.func129, Tryz.ntmps129
  go_wp2
  generalize (((w.alloc (Obj.cells #[.slice a1 l1 c1, .bool b1, .slice a2 l2 c2, .bool b2] 74)).alloc (Obj.cells #[.slice a3 l3 c3, .bool b3, .slice a4 l4 c4, .bool b4] 74)).alloc (Obj.cells #[.slice none 0 0, .bool false] 72)).alloc (Obj.cells #[.slice none 0 0, .bool false] 72) = W at *
  obtain ⟨t1, t2, t3, t4⟩ := four_cell hx
  obtain ⟨t5, t6, t7, t8⟩ := four_cell hy
  have B0 : Below W.heap.size W W.drew := (Below.refl _ _).drew
  have ne1 : w.heap.size ≠ w.heap.size + 1 + 1 := by omega
  have ne2 : w.heap.size + 1 ≠ w.heap.size + 1 + 1 := by omega
  have ne3 : w.heap.size ≠ w.heap.size + 1 + 1 + 1 := by omega
  have ne4 : w.heap.size + 1 ≠ w.heap.size + 1 + 1 + 1 := by omega
  have ne5 : w.heap.size + 1 + 1 + 1 ≠ w.heap.size + 1 + 1 := by omega
  have hle : w.heap.size ≤ w.heap.size + 1 + 1 := by omega
  have hle2 : w.heap.size ≤ w.heap.size + 1 + 1 + 1 := by omega
  go_region_held3 (fun w' => w'.cell? ⟨w.heap.size, 0, none⟩ = some (Value.slice a1 l1 c1) ∧ w'.cell? ⟨w.heap.size, 1, none⟩ = some (Value.bool b1) ∧ w'.cell? ⟨w.heap.size, 2, none⟩ = some (Value.slice a2 l2 c2) ∧ w'.cell? ⟨w.heap.size, 3, none⟩ = some (Value.bool b2) ∧ w'.cell? ⟨w.heap.size + 1, 0, none⟩ = some (Value.slice a3 l3 c3) ∧ w'.cell? ⟨w.heap.size + 1, 1, none⟩ = some (Value.bool b3) ∧ w'.cell? ⟨w.heap.size + 1, 2, none⟩ = some (Value.slice a4 l4 c4) ∧ w'.cell? ⟨w.heap.size + 1, 3, none⟩ = some (Value.bool b4)) ((first | exact K3 | exact K4 | (refine keepQ t1 t2 t3 t4 t5 t6 t7 t8 ?_; first | exact B0 | exact B1 | exact B2 | exact B3 | exact B4))) (first
    | (have gk := B3; go_at_call 109; refine (nmul_any _ _ _ n2 d1 K (K + 3) (by omega) (by omega) (Nc.below B3) n103).mono ?_; rintro e w104 ⟨v104, rfl, n104, hb104⟩; have B4 := chain2 B3 hb104; obtain ⟨a6, l6, c6, b6, rfl⟩ := num_form n104; have zr := box_below B4 hz (lt_of_block hz); have zq := box_set2 (box_below B4 hq (lt_of_block hq)) ne5 (.slice a5 l5 c5) (.bool b5); have i0 := two_cell0 zr; have i1 := two_cell1 zr; have f0 := two_free (k := 0) zr; have f1 := two_free (k := 1) zr; have i2 := two_cell0 zq; have i3 := two_cell1 zq; have f2 := two_free (k := 0) zq; have f3 := two_free (k := 1) zq; have K3 := two_keepQ (keepQ t1 t2 t3 t4 t5 t6 t7 t8 B4) ne1 ne2 (.slice a5 l5 c5) (.bool b5); have K4 := two_keepQ K3 ne3 ne4 (.slice a6 l6 c6) (.bool b6))
    | (have gk := B2; go_at_call 110; refine (qden_any _ _ n1 d1 K (by omega) (Ra.below B2)).mono ?_; rintro e w103 ⟨v103, rfl, n103, hb103⟩; have B3 := chain2 B2 hb103)
    | (have gk := B1; go_at_call 109; refine (nmul_any _ _ _ n1 d2 K (K + 3) (by omega) (by omega) (Na.below B1) n101).mono ?_; rintro e w102 ⟨v102, rfl, n102, hb102⟩; have B2 := chain2 B1 hb102; obtain ⟨a5, l5, c5, b5, rfl⟩ := num_form n102)
    | (have gk := B0; go_at_call 110; refine (qden_any _ _ n2 d2 K (by omega) (Rb.below B0)).mono ?_; rintro e w101 ⟨v101, rfl, n101, hb101⟩; have B1 := chain2 B0 hb101))
  all_goals
    have p1 := box_set2 (two_set1 (x := .bool b5) (two_set0 (x := .slice a5 l5 c5) zr)) (fun e => ne5 e.symm) (.slice a6 l6 c6) (.bool b6)
    have p2 := two_set1 (x := .bool b6) (two_set0 (x := .slice a6 l6 c6) zq)
    have q1 := ((n102.below (chain2 hb103 hb104)).box2 zr (by decide) (.slice a5 l5 c5) (.bool b5)).box2 zq (by decide) (.slice a6 l6 c6) (.bool b6)
    have q2 := (n104.box2 zr (by decide) (.slice a5 l5 c5) (.bool b5)).box2 zq (by decide) (.slice a6 l6 c6) (.bool b6)
    have o2 := ((((chain2 hB B4).setCell (p := ⟨w.heap.size + 1 + 1, 0, none⟩) hle (.slice a5 l5 c5)).setCell (p := ⟨w.heap.size + 1 + 1, 1, none⟩) hle (.bool b5)).setCell (p := ⟨w.heap.size + 1 + 1 + 1, 0, none⟩) hle2 (.slice a6 l6 c6)).setCell (p := ⟨w.heap.size + 1 + 1 + 1, 1, none⟩) hle2 (.bool b6)
    have HO := hid (And.intro p1 (And.intro p2 (And.intro q1 (And.intro q2 o2))))
    clear p1 p2 q1 q2 o2 i0 i1 i2 i3 f0 f1 f2 f3 zr zq K3 K4
    generalize (((w104.setCell ⟨w.heap.size + 1 + 1, 0, none⟩ (.slice a5 l5 c5)).setCell ⟨w.heap.size + 1 + 1, 1, none⟩ (.bool b5)).setCell ⟨w.heap.size + 1 + 1 + 1, 0, none⟩ (.slice a6 l6 c6)).setCell ⟨w.heap.size + 1 + 1 + 1, 1, none⟩ (.bool b6) = X at *
    go_wp2
    obtain ⟨p1, p2, q1, q2, o2⟩ := HO.out
    have g0 := two_cell0 p1
    have g1 := two_cell1 p1
    have g2 := two_cell0 p2
    have g3 := two_cell1 p2
    exact bodyPost_ret (v := .tuple #[.agg #[.slice a5 l5 c5, .bool b5], .agg #[.slice a6 l6 c6, .bool b6]]) (by simp [results, Tryz.results129, go_sem, g0, g1, g2, g3]) rfl ⟨⟨a5, l5, c5, b5, a6, l6, c6, b6, rfl, q1.mono (by omega), q2.mono (by omega)⟩, o2⟩
set_option maxHeartbeats 8000000 in
theorem qcmp_any (w : World) (a b : Value) (n1 d1 n2 d2 : Int) (K : Nat) (hK : K ≤ 1000000) (ha : RatIs w a n1 d1 K) (hb : RatIs w b n2 d2 K) :
    Calls Tryz.prog 90 #[a, b] w fun e w' => e = .returned (.int .i64 (cmpZ (n1 * d2) (n2 * d1))) ∧ Below w.heap.size w w' := by
  have ha0 := ha
  have hb0 := hb
  obtain ⟨a1, l1, c1, a2, l2, c2, rfl, h1, _⟩ := ha
  obtain ⟨a3, l3, c3, a4, l4, c4, rfl, h3, _⟩ := hb
  generalize decide (n1 < 0) = b1 at *
  generalize decide (d1 - 1 < 0) = b2 at *
  generalize decide (n2 < 0) = b3 at *
  generalize decide (d2 - 1 < 0) = b4 at *
  have hx := boxed2_first w (Obj.cells #[.slice a1 l1 c1, .bool b1, .slice a2 l2 c2, .bool b2] 74) (Obj.cells #[.slice a3 l3 c3, .bool b3, .slice a4 l4 c4, .bool b4] 74)
  have hy := boxed2_second w (Obj.cells #[.slice a1 l1 c1, .bool b1, .slice a2 l2 c2, .bool b2] 74) (Obj.cells #[.slice a3 l3 c3, .bool b3, .slice a4 l4 c4, .bool b4] 74)
  have hB := boxed2 (Below.refl w.heap.size w) (Obj.cells #[.slice a1 l1 c1, .bool b1, .slice a2 l2 c2, .bool b2] 74) (Obj.cells #[.slice a3 l3 c3, .bool b3, .slice a4 l4 c4, .bool b4] 74)
  have Ra := ha0.below hB
  have Rb := hb0.below hB
  clear h1 h3 ha0 hb0
  obtain ⟨t1, t2, t3, t4⟩ := four_cell hx
  obtain ⟨t5, t6, t7, t8⟩ := four_cell hy
  go_enter Tryz.func90, Tryz.ntmps90
  go_wp2_with fail
  generalize (w.alloc (Obj.cells #[.slice a1 l1 c1, .bool b1, .slice a2 l2 c2, .bool b2] 74)).alloc (Obj.cells #[.slice a3 l3 c3, .bool b3, .slice a4 l4 c4, .bool b4] 74) = W at *
  refine (qlevelled_any _ _ _ n1 d1 n2 d2 K hK Ra Rb).mono ?_
  rintro e w1 ⟨⟨a5, l5, c5, b5, a6, l6, c6, b6, rfl, x1, y1⟩, e1⟩
  have B1 := chain2 hB e1
  have hx := boxed2_first w1 (Obj.cells #[.slice a5 l5 c5, .bool b5] 72) (Obj.cells #[.slice a6 l6 c6, .bool b6] 72)
  have hy := boxed2_second w1 (Obj.cells #[.slice a5 l5 c5, .bool b5] 72) (Obj.cells #[.slice a6 l6 c6, .bool b6] 72)
  have h2 := boxed2 (Below.refl w1.heap.size w1) (Obj.cells #[.slice a5 l5 c5, .bool b5] 72) (Obj.cells #[.slice a6 l6 c6, .bool b6] 72)
  have B2 := chain2 B1 h2
  have x2 := x1.below h2
  have y2 := y1.below h2
  have t1 := two_cell0 hx
  have t2 := two_cell1 hx
  have t3 := two_cell0 hy
  have t4 := two_cell1 hy
  go_wp2_with fail
  refine (ncmp_any _ _ _ (n1 * d2) (n2 * d1) (2 * K + 3) (2 * K + 3) (by omega) (by omega) x2 y2).mono ?_
  rintro e w2 ⟨rfl, e2⟩
  have B3 := chain2 B2 e2
  go_wp2
  go_ret
  exact ⟨rfl, B3⟩
end Go.Proofs.YtbmdoncdgopoaaaGreatDoor
/- Fractions: joined, Add, Sub. -/
namespace Go.Proofs.YtbmdoncdgopoaaaGreatDoor
open Go.RowKit
set_option linter.unusedVariables false
set_option maxRecDepth 100000
set_option linter.unusedSimpArgs false
attribute [local go_sem ↓] Go.wp_at_zero Go.wp_at_succ

set_option maxHeartbeats 8000000 in
theorem qjoined_add (w : World) (a b : Value) (n1 d1 n2 d2 : Int) (K : Nat) (hK : K ≤ 1000000) (ha : RatIs w a n1 d1 K) (hb : RatIs w b n2 d2 K) (h0 : d1 * d2 ≠ 0) :
    Calls Tryz.prog 126 #[.func (.func 127) #[] #[], a, b] w fun e w' => ∃ v, e = .returned v ∧ RatIs w' v (lowN (n1 * d2 + n2 * d1) (d1 * d2)) (lowD (n1 * d2 + n2 * d1) (d1 * d2)) (2 * K + 12) ∧ Below w.heap.size w w' := by
  have ha0 := ha
  have hb0 := hb
  obtain ⟨a1, l1, c1, a2, l2, c2, rfl, h1, _⟩ := ha
  obtain ⟨a3, l3, c3, a4, l4, c4, rfl, h3, _⟩ := hb
  generalize decide (n1 < 0) = b1 at *
  generalize decide (d1 - 1 < 0) = b2 at *
  generalize decide (n2 < 0) = b3 at *
  generalize decide (d2 - 1 < 0) = b4 at *
  have hx := boxed3_first w (Obj.cells #[.slice a1 l1 c1, .bool b1, .slice a2 l2 c2, .bool b2] 74) (Obj.cells #[.slice a3 l3 c3, .bool b3, .slice a4 l4 c4, .bool b4] 74) (Obj.cells #[.slice none 0 0, .bool false, .slice none 0 0, .bool false] 74)
  have hy := boxed3_second w (Obj.cells #[.slice a1 l1 c1, .bool b1, .slice a2 l2 c2, .bool b2] 74) (Obj.cells #[.slice a3 l3 c3, .bool b3, .slice a4 l4 c4, .bool b4] 74) (Obj.cells #[.slice none 0 0, .bool false, .slice none 0 0, .bool false] 74)
  have hz := boxed3_third w (Obj.cells #[.slice a1 l1 c1, .bool b1, .slice a2 l2 c2, .bool b2] 74) (Obj.cells #[.slice a3 l3 c3, .bool b3, .slice a4 l4 c4, .bool b4] 74) (Obj.cells #[.slice none 0 0, .bool false, .slice none 0 0, .bool false] 74)
  have hB := boxed3 (Below.refl w.heap.size w) (Obj.cells #[.slice a1 l1 c1, .bool b1, .slice a2 l2 c2, .bool b2] 74) (Obj.cells #[.slice a3 l3 c3, .bool b3, .slice a4 l4 c4, .bool b4] 74) (Obj.cells #[.slice none 0 0, .bool false, .slice none 0 0, .bool false] 74)
  have Na := h1.below hB
  have Nc := h3.below hB
  have Ra := ha0.below hB
  have Rb := hb0.below hB
  clear h1 h3 ha0 hb0
  go_enter Tryz.func126, Tryz.ntmps126
  go_wp2
  generalize ((w.alloc (Obj.cells #[.slice a1 l1 c1, .bool b1, .slice a2 l2 c2, .bool b2] 74)).alloc (Obj.cells #[.slice a3 l3 c3, .bool b3, .slice a4 l4 c4, .bool b4] 74)).alloc (Obj.cells #[.slice none 0 0, .bool false, .slice none 0 0, .bool false] 74) = W at *
  obtain ⟨t1, t2, t3, t4⟩ := four_cell hx
  obtain ⟨t5, t6, t7, t8⟩ := four_cell hy
  have B0 : Below W.heap.size W W.drew := (Below.refl _ _).drew
  have ne1 : w.heap.size ≠ w.heap.size + 1 + 1 := by omega
  have ne2 : w.heap.size + 1 ≠ w.heap.size + 1 + 1 := by omega
  have hle : w.heap.size ≤ w.heap.size + 1 + 1 := by omega
  go_region_held3 (fun w' => w'.cell? ⟨w.heap.size, 0, none⟩ = some (Value.slice a1 l1 c1) ∧ w'.cell? ⟨w.heap.size, 1, none⟩ = some (Value.bool b1) ∧ w'.cell? ⟨w.heap.size, 2, none⟩ = some (Value.slice a2 l2 c2) ∧ w'.cell? ⟨w.heap.size, 3, none⟩ = some (Value.bool b2) ∧ w'.cell? ⟨w.heap.size + 1, 0, none⟩ = some (Value.slice a3 l3 c3) ∧ w'.cell? ⟨w.heap.size + 1, 1, none⟩ = some (Value.bool b3) ∧ w'.cell? ⟨w.heap.size + 1, 2, none⟩ = some (Value.slice a4 l4 c4) ∧ w'.cell? ⟨w.heap.size + 1, 3, none⟩ = some (Value.bool b4)) ((first | exact K3 | (refine keepQ t1 t2 t3 t4 t5 t6 t7 t8 ?_; first | exact B0 | exact B1 | exact B2 | exact B3 | exact B4 | exact B5 | exact B6))) (first
    | (have gk := B5; go_at_call 108; refine (qlow_any _ _ _ (n1 * d2 + n2 * d1) (d1 * d2) (2 * K + 6) (by omega) h0 ((n102.below (chain2 (chain2 hb103 hb104) hb105)).mono (by omega)) (n105.mono (by omega))).mono ?_; rintro e w106 ⟨v106, rfl, n106, hb106⟩; have B6 := chain2 B5 hb106; obtain ⟨a5, l5, c5, b5, a6, l6, c6, b6, rfl⟩ := rat_form n106; have zr := box_below B6 hz (lt_of_block hz); obtain ⟨i0, i1, i2, i3⟩ := four_cell zr; have fr := p4_free zr; have K3 := p4_keepQ (keepQ t1 t2 t3 t4 t5 t6 t7 t8 B6) ne1 ne2 (.slice a5 l5 c5) (.bool b5) (.slice a6 l6 c6) (.bool b6))
    | (have gk := B4; go_at_call 109; refine (nmul_any _ _ _ d1 d2 (K + 3) (K + 3) (by omega) (by omega) (n103.below hb104) n104).mono ?_; rintro e w105 ⟨v105, rfl, n105, hb105⟩; have B5 := chain2 B4 hb105)
    | (have gk := B3; go_at_call 110; refine (qden_any _ _ n2 d2 K (by omega) (Rb.below B3)).mono ?_; rintro e w104 ⟨v104, rfl, n104, hb104⟩; have B4 := chain2 B3 hb104)
    | (have gk := B2; go_at_call 110; refine (qden_any _ _ n1 d1 K (by omega) (Ra.below B2)).mono ?_; rintro e w103 ⟨v103, rfl, n103, hb103⟩; have B3 := chain2 B2 hb103)
    | (have gk := B1; go_at_call 127; refine (nadd_any _ _ _ (n1 * d2) (n2 * d1) (2 * K + 3) (2 * K + 3) (by omega) (by omega) m7 m8).mono ?_; rintro e w102 ⟨v102, rfl, n102, hb102⟩; have B2 := chain2 B1 hb102)
    | (have gk := B0; go_at_call 129; refine (qlevelled_any _ _ _ n1 d1 n2 d2 K hK (Ra.below B0) (Rb.below B0)).mono ?_; rintro e w101 ⟨⟨a7, l7, c7, b7, a8, l8, c8, b8, rfl, m7, m8⟩, hb101⟩; have B1 := chain2 B0 hb101))
  all_goals
    have o1 := p4_cells zr (.slice a5 l5 c5) (.bool b5) (.slice a6 l6 c6) (.bool b6)
    have o2 := p4_below (chain2 hB B6) hle (.slice a5 l5 c5) (.bool b5) (.slice a6 l6 c6) (.bool b6)
    have o3 := n106.keep zr (by decide) (p4_other (.slice a5 l5 c5) (.bool b5) (.slice a6 l6 c6) (.bool b6))
    have HO := hid (And.intro o1 (And.intro o2 o3))
    clear o1 o2 o3 i0 i1 i2 i3 fr zr K3
    generalize (((w106.setCell ⟨w.heap.size + 1 + 1, 0, none⟩ (.slice a5 l5 c5)).setCell ⟨w.heap.size + 1 + 1, 1, none⟩ (.bool b5)).setCell ⟨w.heap.size + 1 + 1, 2, none⟩ (.slice a6 l6 c6)).setCell ⟨w.heap.size + 1 + 1, 3, none⟩ (.bool b6) = X at *
    go_wp2
    obtain ⟨⟨g0, g1, g2, g3⟩, o2, o3⟩ := HO.out
    exact bodyPost_ret (v := .agg #[.slice a5 l5 c5, .bool b5, .slice a6 l6 c6, .bool b6]) (by simp [results, Tryz.results126, go_sem, g0, g1, g2, g3]) rfl ⟨_, rfl, o3, o2⟩
set_option maxHeartbeats 8000000 in
theorem qadd_any (w : World) (a b : Value) (n1 d1 n2 d2 : Int) (K : Nat) (hK : K ≤ 1000000) (ha : RatIs w a n1 d1 K) (hb : RatIs w b n2 d2 K) (h0 : d1 * d2 ≠ 0) :
    Calls Tryz.prog 85 #[a, b] w fun e w' => ∃ v, e = .returned v ∧ RatIs w' v (lowN (n1 * d2 + n2 * d1) (d1 * d2)) (lowD (n1 * d2 + n2 * d1) (d1 * d2)) (2 * K + 12) ∧ Below w.heap.size w w' := by
  have ha0 := ha
  have hb0 := hb
  obtain ⟨a1, l1, c1, a2, l2, c2, rfl, h1, _⟩ := ha
  obtain ⟨a3, l3, c3, a4, l4, c4, rfl, h3, _⟩ := hb
  generalize decide (n1 < 0) = b1 at *
  generalize decide (d1 - 1 < 0) = b2 at *
  generalize decide (n2 < 0) = b3 at *
  generalize decide (d2 - 1 < 0) = b4 at *
  have hx := boxed3_first w (Obj.cells #[.slice a1 l1 c1, .bool b1, .slice a2 l2 c2, .bool b2] 74) (Obj.cells #[.slice a3 l3 c3, .bool b3, .slice a4 l4 c4, .bool b4] 74) (Obj.cells #[.slice none 0 0, .bool false, .slice none 0 0, .bool false] 74)
  have hy := boxed3_second w (Obj.cells #[.slice a1 l1 c1, .bool b1, .slice a2 l2 c2, .bool b2] 74) (Obj.cells #[.slice a3 l3 c3, .bool b3, .slice a4 l4 c4, .bool b4] 74) (Obj.cells #[.slice none 0 0, .bool false, .slice none 0 0, .bool false] 74)
  have hz := boxed3_third w (Obj.cells #[.slice a1 l1 c1, .bool b1, .slice a2 l2 c2, .bool b2] 74) (Obj.cells #[.slice a3 l3 c3, .bool b3, .slice a4 l4 c4, .bool b4] 74) (Obj.cells #[.slice none 0 0, .bool false, .slice none 0 0, .bool false] 74)
  have hB := boxed3 (Below.refl w.heap.size w) (Obj.cells #[.slice a1 l1 c1, .bool b1, .slice a2 l2 c2, .bool b2] 74) (Obj.cells #[.slice a3 l3 c3, .bool b3, .slice a4 l4 c4, .bool b4] 74) (Obj.cells #[.slice none 0 0, .bool false, .slice none 0 0, .bool false] 74)
  have Ra := ha0.below hB
  have Rb := hb0.below hB
  clear h1 h3 ha0 hb0
  obtain ⟨t1, t2, t3, t4⟩ := four_cell hx
  obtain ⟨t5, t6, t7, t8⟩ := four_cell hy
  have hle : w.heap.size ≤ w.heap.size + 1 + 1 := by omega
  go_enter Tryz.func85, Tryz.ntmps85
  go_wp2_with fail
  generalize ((w.alloc (Obj.cells #[.slice a1 l1 c1, .bool b1, .slice a2 l2 c2, .bool b2] 74)).alloc (Obj.cells #[.slice a3 l3 c3, .bool b3, .slice a4 l4 c4, .bool b4] 74)).alloc (Obj.cells #[.slice none 0 0, .bool false, .slice none 0 0, .bool false] 74) = W at *
  refine (qjoined_add _ _ _ n1 d1 n2 d2 K hK Ra Rb h0).mono ?_
  rintro e w2 ⟨v2, rfl, R2, e2⟩
  obtain ⟨a5, l5, c5, b5, a6, l6, c6, b6, rfl⟩ := rat_form R2
  have zr := box_below e2 hz (lt_of_block hz)
  obtain ⟨i0, i1, i2, i3⟩ := four_cell zr
  have fr := p4_free zr
  have o1 := p4_cells zr (.slice a5 l5 c5) (.bool b5) (.slice a6 l6 c6) (.bool b6)
  have o2 := p4_below (chain2 hB e2) hle (.slice a5 l5 c5) (.bool b5) (.slice a6 l6 c6) (.bool b6)
  have o3 := R2.keep zr (by decide) (p4_other (.slice a5 l5 c5) (.bool b5) (.slice a6 l6 c6) (.bool b6))
  have HO := hid (And.intro o1 (And.intro o2 o3))
  clear o1 o2 o3 R2
  go_wp2
  obtain ⟨⟨g0, g1, g2, g3⟩, o2, o3⟩ := HO.out
  exact bodyPost_ret (v := .agg #[.slice a5 l5 c5, .bool b5, .slice a6 l6 c6, .bool b6]) (by simp [results, Tryz.results85, go_sem, g0, g1, g2, g3]) rfl ⟨_, rfl, o3, o2⟩
set_option maxHeartbeats 8000000 in
theorem qjoined_sub (w : World) (a b : Value) (n1 d1 n2 d2 : Int) (K : Nat) (hK : K ≤ 1000000) (ha : RatIs w a n1 d1 K) (hb : RatIs w b n2 d2 K) (h0 : d1 * d2 ≠ 0) :
    Calls Tryz.prog 126 #[.func (.func 128) #[] #[], a, b] w fun e w' => ∃ v, e = .returned v ∧ RatIs w' v (lowN (n1 * d2 - n2 * d1) (d1 * d2)) (lowD (n1 * d2 - n2 * d1) (d1 * d2)) (2 * K + 12) ∧ Below w.heap.size w w' := by
  have ha0 := ha
  have hb0 := hb
  obtain ⟨a1, l1, c1, a2, l2, c2, rfl, h1, _⟩ := ha
  obtain ⟨a3, l3, c3, a4, l4, c4, rfl, h3, _⟩ := hb
  generalize decide (n1 < 0) = b1 at *
  generalize decide (d1 - 1 < 0) = b2 at *
  generalize decide (n2 < 0) = b3 at *
  generalize decide (d2 - 1 < 0) = b4 at *
  have hx := boxed3_first w (Obj.cells #[.slice a1 l1 c1, .bool b1, .slice a2 l2 c2, .bool b2] 74) (Obj.cells #[.slice a3 l3 c3, .bool b3, .slice a4 l4 c4, .bool b4] 74) (Obj.cells #[.slice none 0 0, .bool false, .slice none 0 0, .bool false] 74)
  have hy := boxed3_second w (Obj.cells #[.slice a1 l1 c1, .bool b1, .slice a2 l2 c2, .bool b2] 74) (Obj.cells #[.slice a3 l3 c3, .bool b3, .slice a4 l4 c4, .bool b4] 74) (Obj.cells #[.slice none 0 0, .bool false, .slice none 0 0, .bool false] 74)
  have hz := boxed3_third w (Obj.cells #[.slice a1 l1 c1, .bool b1, .slice a2 l2 c2, .bool b2] 74) (Obj.cells #[.slice a3 l3 c3, .bool b3, .slice a4 l4 c4, .bool b4] 74) (Obj.cells #[.slice none 0 0, .bool false, .slice none 0 0, .bool false] 74)
  have hB := boxed3 (Below.refl w.heap.size w) (Obj.cells #[.slice a1 l1 c1, .bool b1, .slice a2 l2 c2, .bool b2] 74) (Obj.cells #[.slice a3 l3 c3, .bool b3, .slice a4 l4 c4, .bool b4] 74) (Obj.cells #[.slice none 0 0, .bool false, .slice none 0 0, .bool false] 74)
  have Na := h1.below hB
  have Nc := h3.below hB
  have Ra := ha0.below hB
  have Rb := hb0.below hB
  clear h1 h3 ha0 hb0
  go_enter Tryz.func126, Tryz.ntmps126
  go_wp2
  generalize ((w.alloc (Obj.cells #[.slice a1 l1 c1, .bool b1, .slice a2 l2 c2, .bool b2] 74)).alloc (Obj.cells #[.slice a3 l3 c3, .bool b3, .slice a4 l4 c4, .bool b4] 74)).alloc (Obj.cells #[.slice none 0 0, .bool false, .slice none 0 0, .bool false] 74) = W at *
  obtain ⟨t1, t2, t3, t4⟩ := four_cell hx
  obtain ⟨t5, t6, t7, t8⟩ := four_cell hy
  have B0 : Below W.heap.size W W.drew := (Below.refl _ _).drew
  have ne1 : w.heap.size ≠ w.heap.size + 1 + 1 := by omega
  have ne2 : w.heap.size + 1 ≠ w.heap.size + 1 + 1 := by omega
  have hle : w.heap.size ≤ w.heap.size + 1 + 1 := by omega
  go_region_held3 (fun w' => w'.cell? ⟨w.heap.size, 0, none⟩ = some (Value.slice a1 l1 c1) ∧ w'.cell? ⟨w.heap.size, 1, none⟩ = some (Value.bool b1) ∧ w'.cell? ⟨w.heap.size, 2, none⟩ = some (Value.slice a2 l2 c2) ∧ w'.cell? ⟨w.heap.size, 3, none⟩ = some (Value.bool b2) ∧ w'.cell? ⟨w.heap.size + 1, 0, none⟩ = some (Value.slice a3 l3 c3) ∧ w'.cell? ⟨w.heap.size + 1, 1, none⟩ = some (Value.bool b3) ∧ w'.cell? ⟨w.heap.size + 1, 2, none⟩ = some (Value.slice a4 l4 c4) ∧ w'.cell? ⟨w.heap.size + 1, 3, none⟩ = some (Value.bool b4)) ((first | exact K3 | (refine keepQ t1 t2 t3 t4 t5 t6 t7 t8 ?_; first | exact B0 | exact B1 | exact B2 | exact B3 | exact B4 | exact B5 | exact B6))) (first
    | (have gk := B5; go_at_call 108; refine (qlow_any _ _ _ (n1 * d2 - n2 * d1) (d1 * d2) (2 * K + 6) (by omega) h0 ((n102.below (chain2 (chain2 hb103 hb104) hb105)).mono (by omega)) (n105.mono (by omega))).mono ?_; rintro e w106 ⟨v106, rfl, n106, hb106⟩; have B6 := chain2 B5 hb106; obtain ⟨a5, l5, c5, b5, a6, l6, c6, b6, rfl⟩ := rat_form n106; have zr := box_below B6 hz (lt_of_block hz); obtain ⟨i0, i1, i2, i3⟩ := four_cell zr; have fr := p4_free zr; have K3 := p4_keepQ (keepQ t1 t2 t3 t4 t5 t6 t7 t8 B6) ne1 ne2 (.slice a5 l5 c5) (.bool b5) (.slice a6 l6 c6) (.bool b6))
    | (have gk := B4; go_at_call 109; refine (nmul_any _ _ _ d1 d2 (K + 3) (K + 3) (by omega) (by omega) (n103.below hb104) n104).mono ?_; rintro e w105 ⟨v105, rfl, n105, hb105⟩; have B5 := chain2 B4 hb105)
    | (have gk := B3; go_at_call 110; refine (qden_any _ _ n2 d2 K (by omega) (Rb.below B3)).mono ?_; rintro e w104 ⟨v104, rfl, n104, hb104⟩; have B4 := chain2 B3 hb104)
    | (have gk := B2; go_at_call 110; refine (qden_any _ _ n1 d1 K (by omega) (Ra.below B2)).mono ?_; rintro e w103 ⟨v103, rfl, n103, hb103⟩; have B3 := chain2 B2 hb103)
    | (have gk := B1; go_at_call 128; refine (nsub_any _ _ _ (n1 * d2) (n2 * d1) (2 * K + 3) (2 * K + 3) (by omega) (by omega) m7 m8).mono ?_; rintro e w102 ⟨v102, rfl, n102, hb102⟩; have B2 := chain2 B1 hb102)
    | (have gk := B0; go_at_call 129; refine (qlevelled_any _ _ _ n1 d1 n2 d2 K hK (Ra.below B0) (Rb.below B0)).mono ?_; rintro e w101 ⟨⟨a7, l7, c7, b7, a8, l8, c8, b8, rfl, m7, m8⟩, hb101⟩; have B1 := chain2 B0 hb101))
  all_goals
    have o1 := p4_cells zr (.slice a5 l5 c5) (.bool b5) (.slice a6 l6 c6) (.bool b6)
    have o2 := p4_below (chain2 hB B6) hle (.slice a5 l5 c5) (.bool b5) (.slice a6 l6 c6) (.bool b6)
    have o3 := n106.keep zr (by decide) (p4_other (.slice a5 l5 c5) (.bool b5) (.slice a6 l6 c6) (.bool b6))
    have HO := hid (And.intro o1 (And.intro o2 o3))
    clear o1 o2 o3 i0 i1 i2 i3 fr zr K3
    generalize (((w106.setCell ⟨w.heap.size + 1 + 1, 0, none⟩ (.slice a5 l5 c5)).setCell ⟨w.heap.size + 1 + 1, 1, none⟩ (.bool b5)).setCell ⟨w.heap.size + 1 + 1, 2, none⟩ (.slice a6 l6 c6)).setCell ⟨w.heap.size + 1 + 1, 3, none⟩ (.bool b6) = X at *
    go_wp2
    obtain ⟨⟨g0, g1, g2, g3⟩, o2, o3⟩ := HO.out
    exact bodyPost_ret (v := .agg #[.slice a5 l5 c5, .bool b5, .slice a6 l6 c6, .bool b6]) (by simp [results, Tryz.results126, go_sem, g0, g1, g2, g3]) rfl ⟨_, rfl, o3, o2⟩
set_option maxHeartbeats 8000000 in
theorem qsub_any (w : World) (a b : Value) (n1 d1 n2 d2 : Int) (K : Nat) (hK : K ≤ 1000000) (ha : RatIs w a n1 d1 K) (hb : RatIs w b n2 d2 K) (h0 : d1 * d2 ≠ 0) :
    Calls Tryz.prog 87 #[a, b] w fun e w' => ∃ v, e = .returned v ∧ RatIs w' v (lowN (n1 * d2 - n2 * d1) (d1 * d2)) (lowD (n1 * d2 - n2 * d1) (d1 * d2)) (2 * K + 12) ∧ Below w.heap.size w w' := by
  have ha0 := ha
  have hb0 := hb
  obtain ⟨a1, l1, c1, a2, l2, c2, rfl, h1, _⟩ := ha
  obtain ⟨a3, l3, c3, a4, l4, c4, rfl, h3, _⟩ := hb
  generalize decide (n1 < 0) = b1 at *
  generalize decide (d1 - 1 < 0) = b2 at *
  generalize decide (n2 < 0) = b3 at *
  generalize decide (d2 - 1 < 0) = b4 at *
  have hx := boxed3_first w (Obj.cells #[.slice a1 l1 c1, .bool b1, .slice a2 l2 c2, .bool b2] 74) (Obj.cells #[.slice a3 l3 c3, .bool b3, .slice a4 l4 c4, .bool b4] 74) (Obj.cells #[.slice none 0 0, .bool false, .slice none 0 0, .bool false] 74)
  have hy := boxed3_second w (Obj.cells #[.slice a1 l1 c1, .bool b1, .slice a2 l2 c2, .bool b2] 74) (Obj.cells #[.slice a3 l3 c3, .bool b3, .slice a4 l4 c4, .bool b4] 74) (Obj.cells #[.slice none 0 0, .bool false, .slice none 0 0, .bool false] 74)
  have hz := boxed3_third w (Obj.cells #[.slice a1 l1 c1, .bool b1, .slice a2 l2 c2, .bool b2] 74) (Obj.cells #[.slice a3 l3 c3, .bool b3, .slice a4 l4 c4, .bool b4] 74) (Obj.cells #[.slice none 0 0, .bool false, .slice none 0 0, .bool false] 74)
  have hB := boxed3 (Below.refl w.heap.size w) (Obj.cells #[.slice a1 l1 c1, .bool b1, .slice a2 l2 c2, .bool b2] 74) (Obj.cells #[.slice a3 l3 c3, .bool b3, .slice a4 l4 c4, .bool b4] 74) (Obj.cells #[.slice none 0 0, .bool false, .slice none 0 0, .bool false] 74)
  have Ra := ha0.below hB
  have Rb := hb0.below hB
  clear h1 h3 ha0 hb0
  obtain ⟨t1, t2, t3, t4⟩ := four_cell hx
  obtain ⟨t5, t6, t7, t8⟩ := four_cell hy
  have hle : w.heap.size ≤ w.heap.size + 1 + 1 := by omega
  go_enter Tryz.func87, Tryz.ntmps87
  go_wp2_with fail
  generalize ((w.alloc (Obj.cells #[.slice a1 l1 c1, .bool b1, .slice a2 l2 c2, .bool b2] 74)).alloc (Obj.cells #[.slice a3 l3 c3, .bool b3, .slice a4 l4 c4, .bool b4] 74)).alloc (Obj.cells #[.slice none 0 0, .bool false, .slice none 0 0, .bool false] 74) = W at *
  refine (qjoined_sub _ _ _ n1 d1 n2 d2 K hK Ra Rb h0).mono ?_
  rintro e w2 ⟨v2, rfl, R2, e2⟩
  obtain ⟨a5, l5, c5, b5, a6, l6, c6, b6, rfl⟩ := rat_form R2
  have zr := box_below e2 hz (lt_of_block hz)
  obtain ⟨i0, i1, i2, i3⟩ := four_cell zr
  have fr := p4_free zr
  have o1 := p4_cells zr (.slice a5 l5 c5) (.bool b5) (.slice a6 l6 c6) (.bool b6)
  have o2 := p4_below (chain2 hB e2) hle (.slice a5 l5 c5) (.bool b5) (.slice a6 l6 c6) (.bool b6)
  have o3 := R2.keep zr (by decide) (p4_other (.slice a5 l5 c5) (.bool b5) (.slice a6 l6 c6) (.bool b6))
  have HO := hid (And.intro o1 (And.intro o2 o3))
  clear o1 o2 o3 R2
  go_wp2
  obtain ⟨⟨g0, g1, g2, g3⟩, o2, o3⟩ := HO.out
  exact bodyPost_ret (v := .agg #[.slice a5 l5 c5, .bool b5, .slice a6 l6 c6, .bool b6]) (by simp [results, Tryz.results87, go_sem, g0, g1, g2, g3]) rfl ⟨_, rfl, o3, o2⟩
end Go.Proofs.YtbmdoncdgopoaaaGreatDoor
/- The document's fractions: made, Mul, Div, Add, Sub, Cmp. -/
namespace Go.Proofs.YtbmdoncdgopoaaaGreatDoor
open Go.RowKit
set_option linter.unusedVariables false
set_option maxRecDepth 100000
set_option linter.unusedSimpArgs false
attribute [local go_sem ↓] Go.wp_at_zero Go.wp_at_succ

theorem trat_form {w : World} {v : Value} {n d : Int} {K : Nat} (h : TRatIs w v n d K) : ∃ a1 l1 c1 d1 a2 l2 c2 d2, v = .agg #[.bool d1, .slice a1 l1 c1, .bool d2, .slice a2 l2 c2] := by
  obtain ⟨a1, l1, c1, a2, l2, c2, m, h1, _⟩ := h
  exact ⟨a1, l1, c1, _, a2, l2, c2, _, h1⟩
set_option maxHeartbeats 4000000 in
theorem tmade_any (w : World) (a b : Value) (x y : Int) (K : Nat) (hK : K ≤ 100000000) (ha : RNumIs w a x K) (hb : RNumIs w b y K) :
    Calls Tryz.prog 22 #[a, b] w fun e w' => ∃ v, e = .returned v ∧ TRatIs w' v (mkN x y) (mkD x y) K ∧ Below w.heap.size w w' := by
  obtain ⟨a1, l1, c1, b1, rfl⟩ := rnum_form ha
  obtain ⟨a2, l2, c2, b2, rfl⟩ := rnum_form hb
  have hx := boxed3_first w (Obj.cells #[.bool b1, .slice a1 l1 c1] 33) (Obj.cells #[.bool b2, .slice a2 l2 c2] 33) (Obj.cells #[.bool false, .slice none 0 0, .bool false, .slice none 0 0] 35)
  have hy := boxed3_second w (Obj.cells #[.bool b1, .slice a1 l1 c1] 33) (Obj.cells #[.bool b2, .slice a2 l2 c2] 33) (Obj.cells #[.bool false, .slice none 0 0, .bool false, .slice none 0 0] 35)
  have hz := boxed3_third w (Obj.cells #[.bool b1, .slice a1 l1 c1] 33) (Obj.cells #[.bool b2, .slice a2 l2 c2] 33) (Obj.cells #[.bool false, .slice none 0 0, .bool false, .slice none 0 0] 35)
  have hB := boxed3 (Below.refl w.heap.size w) (Obj.cells #[.bool b1, .slice a1 l1 c1] 33) (Obj.cells #[.bool b2, .slice a2 l2 c2] 33) (Obj.cells #[.bool false, .slice none 0 0, .bool false, .slice none 0 0] 35)
  have Na := ha.below hB
  have Nb := hb.below hB
  have t1 := two_cell0 hx
  have t2 := two_cell1 hx
  have t3 := two_cell0 hy
  have t4 := two_cell1 hy
  have hle : w.heap.size ≤ w.heap.size + 1 + 1 := by omega
  go_enter Tryz.func22, Tryz.ntmps22
  go_wp2_with fail
  generalize ((w.alloc (Obj.cells #[.bool b1, .slice a1 l1 c1] 33)).alloc (Obj.cells #[.bool b2, .slice a2 l2 c2] 33)).alloc (Obj.cells #[.bool false, .slice none 0 0, .bool false, .slice none 0 0] 35) = W at *
  refine (tmake_any _ _ _ x y K hK Na Nb).mono ?_
  rintro e w2 ⟨⟨a5, l5, c5, b5, a6, l6, c6, b6, rfl, R2⟩, e2⟩
  have zr := box_below e2 hz (lt_of_block hz)
  have u2 := box_new w2 (Obj.cells #[.bool b5, .slice a5 l5 c5, .bool b6, .slice a6 l6 c6] 35)
  have e3 := (Below.refl w2.heap.size w2).alloc (Nat.le_refl _) (Obj.cells #[.bool b5, .slice a5 l5 c5, .bool b6, .slice a6 l6 c6] 35)
  have z3 := box_below e3 zr (lt_of_block zr)
  have R3 := R2.below e3
  have B3 := chain2 (chain2 hB e2) e3
  have hne : w2.heap.size ≠ w.heap.size + 1 + 1 := by have := lt_of_block zr; omega
  obtain ⟨j0, j1, j2, j3⟩ := four_cell u2
  obtain ⟨i0, i1, i2, i3⟩ := four_cell z3
  have fr := p4_free z3
  have o1 := p4_cells z3 (.bool b5) (.slice a5 l5 c5) (.bool b6) (.slice a6 l6 c6)
  have o2 := p4_below B3 hle (.bool b5) (.slice a5 l5 c5) (.bool b6) (.slice a6 l6 c6)
  have o3 := R3.keep z3 (by decide) (p4_other (.bool b5) (.slice a5 l5 c5) (.bool b6) (.slice a6 l6 c6))
  have HO := hid (And.intro o1 (And.intro o2 o3))
  clear o1 o2 o3 R2 R3
  go_wp2
  obtain ⟨⟨g0, g1, g2, g3⟩, o2, o3⟩ := HO.out
  exact bodyPost_ret (v := .agg #[.bool b5, .slice a5 l5 c5, .bool b6, .slice a6 l6 c6]) (by simp [results, Tryz.results22, go_sem, g0, g1, g2, g3]) rfl ⟨_, rfl, o3, o2⟩
set_option maxHeartbeats 8000000 in
theorem tmul_any (w : World) (a b : Value) (n1 d1 n2 d2 : Int) (K : Nat) (hK : K ≤ 1000000) (ha : TRatIs w a n1 d1 K) (hb : TRatIs w b n2 d2 K) :
    Calls Tryz.prog 9 #[a, b] w fun e w' => ∃ v, e = .returned v ∧ TRatIs w' v (mkN (n1 * n2) (d1 * d2)) (mkD (n1 * n2) (d1 * d2)) (2 * K + 6) ∧ Below w.heap.size w w' := by
  have ha0 := ha
  have hb0 := hb
  obtain ⟨a1, l1, c1, a2, l2, c2, m1, rfl, h1, _⟩ := ha
  obtain ⟨a3, l3, c3, a4, l4, c4, m2, rfl, h3, _⟩ := hb
  generalize decide (n1 < 0) = b1 at *
  generalize decide (m1 < 0) = b2 at *
  generalize decide (n2 < 0) = b3 at *
  generalize decide (m2 < 0) = b4 at *
  have hx := boxed3_first w (Obj.cells #[.bool b1, .slice a1 l1 c1, .bool b2, .slice a2 l2 c2] 35) (Obj.cells #[.bool b3, .slice a3 l3 c3, .bool b4, .slice a4 l4 c4] 35) (Obj.cells #[.bool false, .slice none 0 0, .bool false, .slice none 0 0] 35)
  have hy := boxed3_second w (Obj.cells #[.bool b1, .slice a1 l1 c1, .bool b2, .slice a2 l2 c2] 35) (Obj.cells #[.bool b3, .slice a3 l3 c3, .bool b4, .slice a4 l4 c4] 35) (Obj.cells #[.bool false, .slice none 0 0, .bool false, .slice none 0 0] 35)
  have hz := boxed3_third w (Obj.cells #[.bool b1, .slice a1 l1 c1, .bool b2, .slice a2 l2 c2] 35) (Obj.cells #[.bool b3, .slice a3 l3 c3, .bool b4, .slice a4 l4 c4] 35) (Obj.cells #[.bool false, .slice none 0 0, .bool false, .slice none 0 0] 35)
  have hB := boxed3 (Below.refl w.heap.size w) (Obj.cells #[.bool b1, .slice a1 l1 c1, .bool b2, .slice a2 l2 c2] 35) (Obj.cells #[.bool b3, .slice a3 l3 c3, .bool b4, .slice a4 l4 c4] 35) (Obj.cells #[.bool false, .slice none 0 0, .bool false, .slice none 0 0] 35)
  have Na := h1.below hB
  have Nc := h3.below hB
  have Ra := ha0.below hB
  have Rb := hb0.below hB
  clear h1 h3 ha0 hb0
  go_enter Tryz.func9, Tryz.ntmps9
  go_wp2
  generalize ((w.alloc (Obj.cells #[.bool b1, .slice a1 l1 c1, .bool b2, .slice a2 l2 c2] 35)).alloc (Obj.cells #[.bool b3, .slice a3 l3 c3, .bool b4, .slice a4 l4 c4] 35)).alloc (Obj.cells #[.bool false, .slice none 0 0, .bool false, .slice none 0 0] 35) = W at *
  obtain ⟨t1, t2, t3, t4⟩ := four_cell hx
  obtain ⟨t5, t6, t7, t8⟩ := four_cell hy
  have B0 : Below W.heap.size W W.drew := (Below.refl _ _).drew
  have ne1 : w.heap.size ≠ w.heap.size + 1 + 1 := by omega
  have ne2 : w.heap.size + 1 ≠ w.heap.size + 1 + 1 := by omega
  have hle : w.heap.size ≤ w.heap.size + 1 + 1 := by omega
  go_region_held3 (fun w' => w'.cell? ⟨w.heap.size, 0, none⟩ = some (Value.bool b1) ∧ w'.cell? ⟨w.heap.size, 1, none⟩ = some (Value.slice a1 l1 c1) ∧ w'.cell? ⟨w.heap.size, 2, none⟩ = some (Value.bool b2) ∧ w'.cell? ⟨w.heap.size, 3, none⟩ = some (Value.slice a2 l2 c2) ∧ w'.cell? ⟨w.heap.size + 1, 0, none⟩ = some (Value.bool b3) ∧ w'.cell? ⟨w.heap.size + 1, 1, none⟩ = some (Value.slice a3 l3 c3) ∧ w'.cell? ⟨w.heap.size + 1, 2, none⟩ = some (Value.bool b4) ∧ w'.cell? ⟨w.heap.size + 1, 3, none⟩ = some (Value.slice a4 l4 c4)) ((first | exact K3 | (refine keepQ t1 t2 t3 t4 t5 t6 t7 t8 ?_; first | exact B0 | exact B1 | exact B2 | exact B3 | exact B4 | exact B5))) (first
    | (have gk := B4; go_at_call 22; refine (tmade_any _ _ _ (n1 * n2) (d1 * d2) (2 * K + 6) (by omega) ((n101.below (chain2 (chain2 hb102 hb103) hb104)).mono (by omega)) (n104.mono (by omega))).mono ?_; rintro e w105 ⟨v105, rfl, n105, hb105⟩; have B5 := chain2 B4 hb105; obtain ⟨a5, l5, c5, b5, a6, l6, c6, b6, rfl⟩ := trat_form n105; have zr := box_below B5 hz (lt_of_block hz); obtain ⟨i0, i1, i2, i3⟩ := four_cell zr; have fr := p4_free zr; have K3 := p4_keepQ (keepQ t1 t2 t3 t4 t5 t6 t7 t8 B5) ne1 ne2 (.bool b5) (.slice a5 l5 c5) (.bool b6) (.slice a6 l6 c6))
    | (have gk := B3; go_at_call 23; refine (smul_any _ _ _ d1 d2 (K + 3) (K + 3) (by omega) (by omega) (n102.below hb103) n103).mono ?_; rintro e w104 ⟨v104, rfl, n104, hb104⟩; have B4 := chain2 B3 hb104)
    | (have gk := B2; go_at_call 24; refine (tden_any _ _ n2 d2 K (by omega) (Rb.below B2)).mono ?_; rintro e w103 ⟨v103, rfl, n103, hb103⟩; have B3 := chain2 B2 hb103)
    | (have gk := B1; go_at_call 24; refine (tden_any _ _ n1 d1 K (by omega) (Ra.below B1)).mono ?_; rintro e w102 ⟨v102, rfl, n102, hb102⟩; have B2 := chain2 B1 hb102)
    | (have gk := B0; go_at_call 23; refine (smul_any _ _ _ n1 n2 K K (by omega) (by omega) (Na.below B0) (Nc.below B0)).mono ?_; rintro e w101 ⟨v101, rfl, n101, hb101⟩; have B1 := chain2 B0 hb101))
  all_goals
    have o1 := p4_cells zr (.bool b5) (.slice a5 l5 c5) (.bool b6) (.slice a6 l6 c6)
    have o2 := p4_below (chain2 hB B5) hle (.bool b5) (.slice a5 l5 c5) (.bool b6) (.slice a6 l6 c6)
    have o3 := n105.keep zr (by decide) (p4_other (.bool b5) (.slice a5 l5 c5) (.bool b6) (.slice a6 l6 c6))
    have HO := hid (And.intro o1 (And.intro o2 o3))
    clear o1 o2 o3 i0 i1 i2 i3 fr zr K3
    generalize (((w105.setCell ⟨w.heap.size + 1 + 1, 0, none⟩ (.bool b5)).setCell ⟨w.heap.size + 1 + 1, 1, none⟩ (.slice a5 l5 c5)).setCell ⟨w.heap.size + 1 + 1, 2, none⟩ (.bool b6)).setCell ⟨w.heap.size + 1 + 1, 3, none⟩ (.slice a6 l6 c6) = X at *
    go_wp2
    obtain ⟨⟨g0, g1, g2, g3⟩, o2, o3⟩ := HO.out
    exact bodyPost_ret (v := .agg #[.bool b5, .slice a5 l5 c5, .bool b6, .slice a6 l6 c6]) (by simp [results, Tryz.results9, go_sem, g0, g1, g2, g3]) rfl ⟨_, rfl, o3, o2⟩
set_option maxHeartbeats 8000000 in
theorem tadd_any (w : World) (a b : Value) (n1 d1 n2 d2 : Int) (K : Nat) (hK : K ≤ 1000000) (ha : TRatIs w a n1 d1 K) (hb : TRatIs w b n2 d2 K) :
    Calls Tryz.prog 68 #[a, b] w fun e w' => ∃ v, e = .returned v ∧ TRatIs w' v (mkN (n1 * d2 + n2 * d1) (d1 * d2)) (mkD (n1 * d2 + n2 * d1) (d1 * d2)) (2 * K + 6) ∧ Below w.heap.size w w' := by
  have ha0 := ha
  have hb0 := hb
  obtain ⟨a1, l1, c1, a2, l2, c2, m1, rfl, h1, _⟩ := ha
  obtain ⟨a3, l3, c3, a4, l4, c4, m2, rfl, h3, _⟩ := hb
  generalize decide (n1 < 0) = b1 at *
  generalize decide (m1 < 0) = b2 at *
  generalize decide (n2 < 0) = b3 at *
  generalize decide (m2 < 0) = b4 at *
  have hx := boxed3_first w (Obj.cells #[.bool b1, .slice a1 l1 c1, .bool b2, .slice a2 l2 c2] 35) (Obj.cells #[.bool b3, .slice a3 l3 c3, .bool b4, .slice a4 l4 c4] 35) (Obj.cells #[.bool false, .slice none 0 0, .bool false, .slice none 0 0] 35)
  have hy := boxed3_second w (Obj.cells #[.bool b1, .slice a1 l1 c1, .bool b2, .slice a2 l2 c2] 35) (Obj.cells #[.bool b3, .slice a3 l3 c3, .bool b4, .slice a4 l4 c4] 35) (Obj.cells #[.bool false, .slice none 0 0, .bool false, .slice none 0 0] 35)
  have hz := boxed3_third w (Obj.cells #[.bool b1, .slice a1 l1 c1, .bool b2, .slice a2 l2 c2] 35) (Obj.cells #[.bool b3, .slice a3 l3 c3, .bool b4, .slice a4 l4 c4] 35) (Obj.cells #[.bool false, .slice none 0 0, .bool false, .slice none 0 0] 35)
  have hB := boxed3 (Below.refl w.heap.size w) (Obj.cells #[.bool b1, .slice a1 l1 c1, .bool b2, .slice a2 l2 c2] 35) (Obj.cells #[.bool b3, .slice a3 l3 c3, .bool b4, .slice a4 l4 c4] 35) (Obj.cells #[.bool false, .slice none 0 0, .bool false, .slice none 0 0] 35)
  have Na := h1.below hB
  have Nc := h3.below hB
  have Ra := ha0.below hB
  have Rb := hb0.below hB
  clear h1 h3 ha0 hb0
  go_enter Tryz.func68, Tryz.ntmps68
  go_wp2
  generalize ((w.alloc (Obj.cells #[.bool b1, .slice a1 l1 c1, .bool b2, .slice a2 l2 c2] 35)).alloc (Obj.cells #[.bool b3, .slice a3 l3 c3, .bool b4, .slice a4 l4 c4] 35)).alloc (Obj.cells #[.bool false, .slice none 0 0, .bool false, .slice none 0 0] 35) = W at *
  obtain ⟨t1, t2, t3, t4⟩ := four_cell hx
  obtain ⟨t5, t6, t7, t8⟩ := four_cell hy
  have B0 : Below W.heap.size W W.drew := (Below.refl _ _).drew
  have ne1 : w.heap.size ≠ w.heap.size + 1 + 1 := by omega
  have ne2 : w.heap.size + 1 ≠ w.heap.size + 1 + 1 := by omega
  have hle : w.heap.size ≤ w.heap.size + 1 + 1 := by omega
  go_region_held3 (fun w' => w'.cell? ⟨w.heap.size, 0, none⟩ = some (Value.bool b1) ∧ w'.cell? ⟨w.heap.size, 1, none⟩ = some (Value.slice a1 l1 c1) ∧ w'.cell? ⟨w.heap.size, 2, none⟩ = some (Value.bool b2) ∧ w'.cell? ⟨w.heap.size, 3, none⟩ = some (Value.slice a2 l2 c2) ∧ w'.cell? ⟨w.heap.size + 1, 0, none⟩ = some (Value.bool b3) ∧ w'.cell? ⟨w.heap.size + 1, 1, none⟩ = some (Value.slice a3 l3 c3) ∧ w'.cell? ⟨w.heap.size + 1, 2, none⟩ = some (Value.bool b4) ∧ w'.cell? ⟨w.heap.size + 1, 3, none⟩ = some (Value.slice a4 l4 c4)) ((first | exact K3 | (refine keepQ t1 t2 t3 t4 t5 t6 t7 t8 ?_; first | exact B0 | exact B1 | exact B2 | exact B3 | exact B4 | exact B5 | exact B6 | exact B7 | exact B8 | exact B9))) (first
    | (have gk := B8; go_at_call 22; refine (tmade_any _ _ _ (n1 * d2 + n2 * d1) (d1 * d2) (2 * K + 6) (by omega) ((n105.below (chain2 (chain2 hb106 hb107) hb108)).mono (by omega)) (n108.mono (by omega))).mono ?_; rintro e w109 ⟨v109, rfl, n109, hb109⟩; have B9 := chain2 B8 hb109; obtain ⟨a5, l5, c5, b5, a6, l6, c6, b6, rfl⟩ := trat_form n109; have zr := box_below B9 hz (lt_of_block hz); obtain ⟨i0, i1, i2, i3⟩ := four_cell zr; have fr := p4_free zr; have K3 := p4_keepQ (keepQ t1 t2 t3 t4 t5 t6 t7 t8 B9) ne1 ne2 (.bool b5) (.slice a5 l5 c5) (.bool b6) (.slice a6 l6 c6))
    | (have gk := B7; go_at_call 23; refine (smul_any _ _ _ d1 d2 (K + 3) (K + 3) (by omega) (by omega) (n106.below hb107) n107).mono ?_; rintro e w108 ⟨v108, rfl, n108, hb108⟩; have B8 := chain2 B7 hb108)
    | (have gk := B6; go_at_call 24; refine (tden_any _ _ n2 d2 K (by omega) (Rb.below B6)).mono ?_; rintro e w107 ⟨v107, rfl, n107, hb107⟩; have B7 := chain2 B6 hb107)
    | (have gk := B5; go_at_call 24; refine (tden_any _ _ n1 d1 K (by omega) (Ra.below B5)).mono ?_; rintro e w106 ⟨v106, rfl, n106, hb106⟩; have B6 := chain2 B5 hb106)
    | (have gk := B4; go_at_call 117; refine (sadd_any _ _ _ (n1 * d2) (n2 * d1) (K + (K + 3)) (K + (K + 3)) (by omega) (by omega) (n102.below (chain2 hb103 hb104)) n104).mono ?_; rintro e w105 ⟨v105, rfl, n105, hb105⟩; have B5 := chain2 B4 hb105)
    | (have gk := B3; go_at_call 23; refine (smul_any _ _ _ n2 d1 K (K + 3) (by omega) (by omega) (Nc.below B3) n103).mono ?_; rintro e w104 ⟨v104, rfl, n104, hb104⟩; have B4 := chain2 B3 hb104)
    | (have gk := B2; go_at_call 24; refine (tden_any _ _ n1 d1 K (by omega) (Ra.below B2)).mono ?_; rintro e w103 ⟨v103, rfl, n103, hb103⟩; have B3 := chain2 B2 hb103)
    | (have gk := B1; go_at_call 23; refine (smul_any _ _ _ n1 d2 K (K + 3) (by omega) (by omega) (Na.below B1) n101).mono ?_; rintro e w102 ⟨v102, rfl, n102, hb102⟩; have B2 := chain2 B1 hb102)
    | (have gk := B0; go_at_call 24; refine (tden_any _ _ n2 d2 K (by omega) (Rb.below B0)).mono ?_; rintro e w101 ⟨v101, rfl, n101, hb101⟩; have B1 := chain2 B0 hb101))
  all_goals
    have o1 := p4_cells zr (.bool b5) (.slice a5 l5 c5) (.bool b6) (.slice a6 l6 c6)
    have o2 := p4_below (chain2 hB B9) hle (.bool b5) (.slice a5 l5 c5) (.bool b6) (.slice a6 l6 c6)
    have o3 := n109.keep zr (by decide) (p4_other (.bool b5) (.slice a5 l5 c5) (.bool b6) (.slice a6 l6 c6))
    have HO := hid (And.intro o1 (And.intro o2 o3))
    clear o1 o2 o3 i0 i1 i2 i3 fr zr K3
    generalize (((w109.setCell ⟨w.heap.size + 1 + 1, 0, none⟩ (.bool b5)).setCell ⟨w.heap.size + 1 + 1, 1, none⟩ (.slice a5 l5 c5)).setCell ⟨w.heap.size + 1 + 1, 2, none⟩ (.bool b6)).setCell ⟨w.heap.size + 1 + 1, 3, none⟩ (.slice a6 l6 c6) = X at *
    go_wp2
    obtain ⟨⟨g0, g1, g2, g3⟩, o2, o3⟩ := HO.out
    exact bodyPost_ret (v := .agg #[.bool b5, .slice a5 l5 c5, .bool b6, .slice a6 l6 c6]) (by simp [results, Tryz.results68, go_sem, g0, g1, g2, g3]) rfl ⟨_, rfl, o3, o2⟩
set_option maxHeartbeats 8000000 in
theorem tsub_any (w : World) (a b : Value) (n1 d1 n2 d2 : Int) (K : Nat) (hK : K ≤ 1000000) (ha : TRatIs w a n1 d1 K) (hb : TRatIs w b n2 d2 K) (hK' : K + 3 ≤ 1000000) (h0 : d2 ≠ 0) :
    Calls Tryz.prog 66 #[a, b] w fun e w' => ∃ v, e = .returned v ∧ TRatIs w' v (mkN (n1 * d2 + -n2 * d1) (d1 * d2)) (mkD (n1 * d2 + -n2 * d1) (d1 * d2)) (2 * (K + 3) + 6) ∧ Below w.heap.size w w' := by
  have ha0 := ha
  have hb0 := hb
  obtain ⟨a1, l1, c1, a2, l2, c2, m1, rfl, h1, _⟩ := ha
  obtain ⟨a3, l3, c3, a4, l4, c4, m2, rfl, h3, _⟩ := hb
  generalize decide (n1 < 0) = b1 at *
  generalize decide (m1 < 0) = b2 at *
  generalize decide (n2 < 0) = b3 at *
  generalize decide (m2 < 0) = b4 at *
  have hx := boxed3_first w (Obj.cells #[.bool b1, .slice a1 l1 c1, .bool b2, .slice a2 l2 c2] 35) (Obj.cells #[.bool b3, .slice a3 l3 c3, .bool b4, .slice a4 l4 c4] 35) (Obj.cells #[.bool false, .slice none 0 0, .bool false, .slice none 0 0] 35)
  have hy := boxed3_second w (Obj.cells #[.bool b1, .slice a1 l1 c1, .bool b2, .slice a2 l2 c2] 35) (Obj.cells #[.bool b3, .slice a3 l3 c3, .bool b4, .slice a4 l4 c4] 35) (Obj.cells #[.bool false, .slice none 0 0, .bool false, .slice none 0 0] 35)
  have hz := boxed3_third w (Obj.cells #[.bool b1, .slice a1 l1 c1, .bool b2, .slice a2 l2 c2] 35) (Obj.cells #[.bool b3, .slice a3 l3 c3, .bool b4, .slice a4 l4 c4] 35) (Obj.cells #[.bool false, .slice none 0 0, .bool false, .slice none 0 0] 35)
  have hB := boxed3 (Below.refl w.heap.size w) (Obj.cells #[.bool b1, .slice a1 l1 c1, .bool b2, .slice a2 l2 c2] 35) (Obj.cells #[.bool b3, .slice a3 l3 c3, .bool b4, .slice a4 l4 c4] 35) (Obj.cells #[.bool false, .slice none 0 0, .bool false, .slice none 0 0] 35)
  have Na := h1.below hB
  have Nc := h3.below hB
  have Ra := ha0.below hB
  have Rb := hb0.below hB
  clear h1 h3 ha0 hb0
  go_enter Tryz.func66, Tryz.ntmps66
  go_wp2
  generalize ((w.alloc (Obj.cells #[.bool b1, .slice a1 l1 c1, .bool b2, .slice a2 l2 c2] 35)).alloc (Obj.cells #[.bool b3, .slice a3 l3 c3, .bool b4, .slice a4 l4 c4] 35)).alloc (Obj.cells #[.bool false, .slice none 0 0, .bool false, .slice none 0 0] 35) = W at *
  obtain ⟨t1, t2, t3, t4⟩ := four_cell hx
  obtain ⟨t5, t6, t7, t8⟩ := four_cell hy
  have B0 : Below W.heap.size W W.drew := (Below.refl _ _).drew
  have ne1 : w.heap.size ≠ w.heap.size + 1 + 1 := by omega
  have ne2 : w.heap.size + 1 ≠ w.heap.size + 1 + 1 := by omega
  have hle : w.heap.size ≤ w.heap.size + 1 + 1 := by omega
  go_region_held3 (fun w' => w'.cell? ⟨w.heap.size, 0, none⟩ = some (Value.bool b1) ∧ w'.cell? ⟨w.heap.size, 1, none⟩ = some (Value.slice a1 l1 c1) ∧ w'.cell? ⟨w.heap.size, 2, none⟩ = some (Value.bool b2) ∧ w'.cell? ⟨w.heap.size, 3, none⟩ = some (Value.slice a2 l2 c2) ∧ w'.cell? ⟨w.heap.size + 1, 0, none⟩ = some (Value.bool b3) ∧ w'.cell? ⟨w.heap.size + 1, 1, none⟩ = some (Value.slice a3 l3 c3) ∧ w'.cell? ⟨w.heap.size + 1, 2, none⟩ = some (Value.bool b4) ∧ w'.cell? ⟨w.heap.size + 1, 3, none⟩ = some (Value.slice a4 l4 c4)) ((first | exact K3 | (refine keepQ t1 t2 t3 t4 t5 t6 t7 t8 ?_; first | exact B0 | exact B1 | exact B2))) (first
    | (have gk := B1; go_at_call 68; refine (tadd_any _ _ _ n1 d1 (-n2) d2 (K + 3) (by omega) ((Ra.below B1).mono (by omega)) n101).mono ?_; rintro e w102 ⟨v102, rfl, n102, hb102⟩; have B2 := chain2 B1 hb102; obtain ⟨a5, l5, c5, b5, a6, l6, c6, b6, rfl⟩ := trat_form n102; have zr := box_below B2 hz (lt_of_block hz); obtain ⟨i0, i1, i2, i3⟩ := four_cell zr; have fr := p4_free zr; have K3 := p4_keepQ (keepQ t1 t2 t3 t4 t5 t6 t7 t8 B2) ne1 ne2 (.bool b5) (.slice a5 l5 c5) (.bool b6) (.slice a6 l6 c6))
    | (have gk := B0; go_at_call 67; refine (tneg_any _ _ n2 d2 K (by omega) h0 (Rb.below B0)).mono ?_; rintro e w101 ⟨v101, rfl, n101, hb101⟩; have B1 := chain2 B0 hb101))
  all_goals
    have o1 := p4_cells zr (.bool b5) (.slice a5 l5 c5) (.bool b6) (.slice a6 l6 c6)
    have o2 := p4_below (chain2 hB B2) hle (.bool b5) (.slice a5 l5 c5) (.bool b6) (.slice a6 l6 c6)
    have o3 := n102.keep zr (by decide) (p4_other (.bool b5) (.slice a5 l5 c5) (.bool b6) (.slice a6 l6 c6))
    have HO := hid (And.intro o1 (And.intro o2 o3))
    clear o1 o2 o3 i0 i1 i2 i3 fr zr K3
    generalize (((w102.setCell ⟨w.heap.size + 1 + 1, 0, none⟩ (.bool b5)).setCell ⟨w.heap.size + 1 + 1, 1, none⟩ (.slice a5 l5 c5)).setCell ⟨w.heap.size + 1 + 1, 2, none⟩ (.bool b6)).setCell ⟨w.heap.size + 1 + 1, 3, none⟩ (.slice a6 l6 c6) = X at *
    go_wp2
    obtain ⟨⟨g0, g1, g2, g3⟩, o2, o3⟩ := HO.out
    exact bodyPost_ret (v := .agg #[.bool b5, .slice a5 l5 c5, .bool b6, .slice a6 l6 c6]) (by simp [results, Tryz.results66, go_sem, g0, g1, g2, g3]) rfl ⟨_, rfl, o3, o2⟩
set_option maxHeartbeats 8000000 in
theorem tcmp_any (w : World) (a b : Value) (n1 d1 n2 d2 : Int) (K : Nat) (hK : K ≤ 1000000) (ha : TRatIs w a n1 d1 K) (hb : TRatIs w b n2 d2 K) :
    Calls Tryz.prog 43 #[a, b] w fun e w' => e = .returned (.int .i64 (cmpZ (n1 * d2) (n2 * d1))) ∧ Below w.heap.size w w' := by
  have ha0 := ha
  have hb0 := hb
  obtain ⟨a1, l1, c1, a2, l2, c2, m1, rfl, h1, _⟩ := ha
  obtain ⟨a3, l3, c3, a4, l4, c4, m2, rfl, h3, _⟩ := hb
  generalize decide (n1 < 0) = b1 at *
  generalize decide (m1 < 0) = b2 at *
  generalize decide (n2 < 0) = b3 at *
  generalize decide (m2 < 0) = b4 at *
  have hx := boxed2_first w (Obj.cells #[.bool b1, .slice a1 l1 c1, .bool b2, .slice a2 l2 c2] 35) (Obj.cells #[.bool b3, .slice a3 l3 c3, .bool b4, .slice a4 l4 c4] 35)
  have hy := boxed2_second w (Obj.cells #[.bool b1, .slice a1 l1 c1, .bool b2, .slice a2 l2 c2] 35) (Obj.cells #[.bool b3, .slice a3 l3 c3, .bool b4, .slice a4 l4 c4] 35)
  have hB := boxed2 (Below.refl w.heap.size w) (Obj.cells #[.bool b1, .slice a1 l1 c1, .bool b2, .slice a2 l2 c2] 35) (Obj.cells #[.bool b3, .slice a3 l3 c3, .bool b4, .slice a4 l4 c4] 35)
  have Na := h1.below hB
  have Nc := h3.below hB
  have Ra := ha0.below hB
  have Rb := hb0.below hB
  clear h1 h3 ha0 hb0
  go_enter Tryz.func43, Tryz.ntmps43
  go_wp2
  generalize (w.alloc (Obj.cells #[.bool b1, .slice a1 l1 c1, .bool b2, .slice a2 l2 c2] 35)).alloc (Obj.cells #[.bool b3, .slice a3 l3 c3, .bool b4, .slice a4 l4 c4] 35) = W at *
  obtain ⟨t1, t2, t3, t4⟩ := four_cell hx
  obtain ⟨t5, t6, t7, t8⟩ := four_cell hy
  have B0 : Below W.heap.size W W.drew := (Below.refl _ _).drew
  go_region_held3 (fun w' => w'.cell? ⟨w.heap.size, 0, none⟩ = some (Value.bool b1) ∧ w'.cell? ⟨w.heap.size, 1, none⟩ = some (Value.slice a1 l1 c1) ∧ w'.cell? ⟨w.heap.size, 2, none⟩ = some (Value.bool b2) ∧ w'.cell? ⟨w.heap.size, 3, none⟩ = some (Value.slice a2 l2 c2) ∧ w'.cell? ⟨w.heap.size + 1, 0, none⟩ = some (Value.bool b3) ∧ w'.cell? ⟨w.heap.size + 1, 1, none⟩ = some (Value.slice a3 l3 c3) ∧ w'.cell? ⟨w.heap.size + 1, 2, none⟩ = some (Value.bool b4) ∧ w'.cell? ⟨w.heap.size + 1, 3, none⟩ = some (Value.slice a4 l4 c4)) ((refine keepQ t1 t2 t3 t4 t5 t6 t7 t8 ?_; first | exact B0 | exact B1 | exact B2 | exact B3 | exact B4 | exact B5)) (first
    | (have gk := B4; go_at_call 97; refine (scmp_any _ _ _ (n1 * d2) (n2 * d1) (K + (K + 3)) (K + (K + 3)) (by omega) (by omega) (n102.below (chain2 hb103 hb104)) n104).mono ?_; rintro e w105 ⟨rfl, hb105⟩; have B5 := chain2 B4 hb105)
    | (have gk := B3; go_at_call 23; refine (smul_any _ _ _ n2 d1 K (K + 3) (by omega) (by omega) (Nc.below B3) n103).mono ?_; rintro e w104 ⟨v104, rfl, n104, hb104⟩; have B4 := chain2 B3 hb104)
    | (have gk := B2; go_at_call 24; refine (tden_any _ _ n1 d1 K (by omega) (Ra.below B2)).mono ?_; rintro e w103 ⟨v103, rfl, n103, hb103⟩; have B3 := chain2 B2 hb103)
    | (have gk := B1; go_at_call 23; refine (smul_any _ _ _ n1 d2 K (K + 3) (by omega) (by omega) (Na.below B1) n101).mono ?_; rintro e w102 ⟨v102, rfl, n102, hb102⟩; have B2 := chain2 B1 hb102)
    | (have gk := B0; go_at_call 24; refine (tden_any _ _ n2 d2 K (by omega) (Rb.below B0)).mono ?_; rintro e w101 ⟨v101, rfl, n101, hb101⟩; have B1 := chain2 B0 hb101))
  all_goals
    have g9 := chain2 hB B5
    go_wp2
    go_ret
    exact ⟨rfl, g9⟩
end Go.Proofs.YtbmdoncdgopoaaaGreatDoor
/- cert: the fractions' calls, as numbers; the program's and the document's. -/
namespace Go.Proofs.YtbmdoncdgopoaaaGreatDoor
open Go.RowKit
set_option linter.unusedVariables false
set_option linter.unusedSimpArgs false

theorem QIs.form {w : World} {v : Value} {q : Rat} {K : Nat} (h : QIs w v q K) : ∃ a1 l1 c1 b1 a2 l2 c2 b2, v = .agg #[.slice a1 l1 c1, .bool b1, .slice a2 l2 c2, .bool b2] := by
  obtain ⟨a1, l1, c1, a2, l2, c2, h1, _⟩ := h
  exact ⟨a1, l1, c1, _, a2, l2, c2, _, h1⟩
theorem TIs.form {w : World} {v : Value} {q : Rat} {K : Nat} (h : TIs w v q K) : ∃ b1 a1 l1 c1 b2 a2 l2 c2, v = .agg #[.bool b1, .slice a1 l1 c1, .bool b2, .slice a2 l2 c2] := by
  obtain ⟨a1, l1, c1, a2, l2, c2, m, h1, _⟩ := h
  exact ⟨_, a1, l1, c1, _, a2, l2, c2, h1⟩
theorem q_mul (w : World) (a b : Value) (p q : Rat) (K : Nat) (hK : K ≤ 1000000) (ha : QIs w a p K) (hb : QIs w b q K) :
    Calls Tryz.prog 61 #[a, b] w fun e w' => ∃ v, e = .returned v ∧ QIs w' v (p * q) (2 * K + 12) ∧ Below w.heap.size w w' := by
  have h0 := Int.mul_ne_zero (den_ne p) (den_ne q)
  refine (qmul_any w a b _ _ _ _ K hK ha hb h0).mono ?_
  rintro e w' ⟨v, rfl, hv, b⟩
  rw [(low_rat h0).1, (low_rat h0).2, mul_rat] at hv
  exact ⟨v, rfl, hv, b⟩
theorem q_add (w : World) (a b : Value) (p q : Rat) (K : Nat) (hK : K ≤ 1000000) (ha : QIs w a p K) (hb : QIs w b q K) :
    Calls Tryz.prog 85 #[a, b] w fun e w' => ∃ v, e = .returned v ∧ QIs w' v (p + q) (2 * K + 12) ∧ Below w.heap.size w w' := by
  have h0 := Int.mul_ne_zero (den_ne p) (den_ne q)
  refine (qadd_any w a b _ _ _ _ K hK ha hb h0).mono ?_
  rintro e w' ⟨v, rfl, hv, b⟩
  rw [(low_rat h0).1, (low_rat h0).2, add_rat] at hv
  exact ⟨v, rfl, hv, b⟩
theorem q_cmp (w : World) (a b : Value) (p q : Rat) (K : Nat) (hK : K ≤ 1000000) (ha : QIs w a p K) (hb : QIs w b q K) :
    Calls Tryz.prog 90 #[a, b] w fun e w' => e = .returned (.int .i64 (cmpR p q)) ∧ Below w.heap.size w w' := by
  rw [← cmp_rat]
  exact qcmp_any w a b _ _ _ _ K hK ha hb
theorem q_sign (w : World) (a : Value) (p : Rat) (K : Nat) (hK : K < 900000000) (ha : QIs w a p K) :
    Calls Tryz.prog 88 #[a] w fun e w' => e = .returned (.int .i64 (sgnR p)) ∧ Below w.heap.size w w' := by
  rw [← sgn_rat]
  exact qsign_any w a _ _ K hK ha
theorem q_of (w : World) (z : Int) (h1 : -9223372036854775808 ≤ z) (h2 : z < 9223372036854775808) :
    Calls Tryz.prog 62 #[.int .i64 z] w fun e w' => ∃ v, e = .returned v ∧ QIs w' v (z : Rat) 2 ∧ Below w.heap.size w w' := qof_any w z h1 h2
theorem q_den (w : World) (a : Value) (p : Rat) (K : Nat) (hK : K ≤ 400000000) (ha : QIs w a p K) :
    Calls Tryz.prog 110 #[a] w fun e w' => ∃ v, e = .returned v ∧ NumIs w' v (p.den : Int) (K + 3) ∧ Below w.heap.size w w' := qden_any w a _ _ K hK ha
theorem q_make (w : World) (a b : Value) (x y : Int) (K : Nat) (hK : K ≤ 100000000) (ha : NumIs w a x K) (hb : NumIs w b y K) (hy : y ≠ 0) :
    Calls Tryz.prog 107 #[a, b] w fun e w' => ∃ a1 l1 c1 d1 a2 l2 c2 d2, e = .returned (.tuple #[.agg #[.slice a1 l1 c1, .bool d1, .slice a2 l2 c2, .bool d2], .int .i64 0]) ∧ QIs w' (.agg #[.slice a1 l1 c1, .bool d1, .slice a2 l2 c2, .bool d2]) (Rat.divInt x y) (K + 6) ∧ Below w.heap.size w w' := by
  refine (qmake_any w a b x y K hK ha hb).mono ?_
  rintro e w' ⟨⟨a1, l1, c1, d1, a2, l2, c2, d2, rfl, hv⟩, b⟩
  rw [mk_rat.1, mk_rat.2] at hv
  exact ⟨a1, l1, c1, d1, a2, l2, c2, d2, by unfold mkE; rw [if_neg hy], hv, b⟩
/-- s is the text of the number q. -/
def TxR (s : ByteArray) (q : Rat) : Prop := QTx s q.num q.den
theorem TxR.inj {s t : ByteArray} {q : Rat} (h : TxR s q) (k : TxR t q) : s = t := QTx.inj h k
theorem q_text (w : World) (v : Value) (p : Rat) (K : Nat) (hK : K ≤ 1000000) (h : QIs w v p K) (htab : Tab w) :
    Calls Tryz.prog 64 #[v] w fun e w' => (∃ s, e = .returned (.string s) ∧ TxR s p) ∧ Below w.heap.size w w' := qtext_any w v _ _ K hK h htab
/-- s is the text of the number q. -/
def CanR (s : ByteArray) (q : Rat) : Prop := Can s q.num q.den
theorem can_rat {s : ByteArray} {n d : Int} (h : Can s n d) : (Rat.divInt n d).num = n ∧ ((Rat.divInt n d).den : Int) = d := num_den_of h.pos h.cop
theorem CanR.inj {s : ByteArray} {p q : Rat} (h : CanR s p) (k : CanR s q) : p = q := by
  obtain ⟨h1, h2⟩ := can_uniq h k
  exact Rat.ext h1 (by omega)
theorem q_parse (s : ByteArray) (w : World) (hs : s.size ≤ 100000) (hm : Mx w) (htab : Tab w) :
    Calls Tryz.prog 59 #[.string s] w fun e w' => ((∃ q v, CanR s q ∧ e = .returned (.tuple #[v, .int .i64 0]) ∧ QIs w' v q (s.size / 9 + 8)) ∨ ((∀ q, ¬ CanR s q) ∧ e = .returned (.tuple #[.agg #[.slice none 0 0, .bool false, .slice none 0 0, .bool false], .int .i64 10]))) ∧ Below w.heap.size w w' := by
  refine (qparse_any s w hs hm htab).mono ?_
  rintro e w' ⟨h, b⟩
  refine ⟨?_, b⟩
  rcases h with ⟨n, d, v, hc, rfl, hv⟩ | ⟨hn, rfl⟩
  · obtain ⟨h1, h2⟩ := can_rat hc
    refine Or.inl ⟨Rat.divInt n d, v, ?_, rfl, ?_⟩
    · unfold CanR; rw [h1, h2]; exact hc
    · unfold QIs; rw [h1, h2]; exact hv
  · exact Or.inr ⟨fun q => hn _ _, rfl⟩
theorem t_parse (s : ByteArray) (w : World) (hs : s.size ≤ 100000) :
    Calls Tryz.prog 65 #[.string s] w fun e w' => ((∃ q v, CanR s q ∧ e = .returned (.tuple #[v, .int .i64 0]) ∧ TIs w' v q (s.size / 9 + 8)) ∨ ((∀ q, ¬ CanR s q) ∧ e = .returned (.tuple #[.agg #[.bool false, .slice none 0 0, .bool false, .slice none 0 0], .int .i64 10]))) ∧ Below w.heap.size w w' := by
  refine (tparse_any s w hs).mono ?_
  rintro e w' ⟨h, b⟩
  refine ⟨?_, b⟩
  rcases h with ⟨n, d, v, hc, rfl, hv⟩ | ⟨hn, rfl⟩
  · obtain ⟨h1, h2⟩ := can_rat hc
    refine Or.inl ⟨Rat.divInt n d, v, ?_, rfl, ?_⟩
    · unfold CanR; rw [h1, h2]; exact hc
    · unfold TIs; rw [h1, h2]; exact hv
  · exact Or.inr ⟨fun q => hn _ _, rfl⟩
theorem t_mul (w : World) (a b : Value) (p q : Rat) (K : Nat) (hK : K ≤ 1000000) (ha : TIs w a p K) (hb : TIs w b q K) :
    Calls Tryz.prog 9 #[a, b] w fun e w' => ∃ v, e = .returned v ∧ TIs w' v (p * q) (2 * K + 6) ∧ Below w.heap.size w w' := by
  refine (tmul_any w a b _ _ _ _ K hK ha hb).mono ?_
  rintro e w' ⟨v, rfl, hv, b⟩
  rw [mk_rat.1, mk_rat.2, mul_rat] at hv
  exact ⟨v, rfl, hv, b⟩
theorem t_add (w : World) (a b : Value) (p q : Rat) (K : Nat) (hK : K ≤ 1000000) (ha : TIs w a p K) (hb : TIs w b q K) :
    Calls Tryz.prog 68 #[a, b] w fun e w' => ∃ v, e = .returned v ∧ TIs w' v (p + q) (2 * K + 6) ∧ Below w.heap.size w w' := by
  refine (tadd_any w a b _ _ _ _ K hK ha hb).mono ?_
  rintro e w' ⟨v, rfl, hv, b⟩
  rw [mk_rat.1, mk_rat.2, add_rat] at hv
  exact ⟨v, rfl, hv, b⟩
theorem t_sub (w : World) (a b : Value) (p q : Rat) (K : Nat) (hK : K ≤ 1000000) (ha : TIs w a p K) (hb : TIs w b q K) (hK' : K + 3 ≤ 1000000) :
    Calls Tryz.prog 66 #[a, b] w fun e w' => ∃ v, e = .returned v ∧ TIs w' v (p - q) (2 * (K + 3) + 6) ∧ Below w.heap.size w w' := by
  refine (tsub_any w a b _ _ _ _ K hK ha hb hK' (den_ne q)).mono ?_
  rintro e w' ⟨v, rfl, hv, b⟩
  rw [mk_rat.1, mk_rat.2, sub_rat'] at hv
  exact ⟨v, rfl, hv, b⟩
theorem t_cmp (w : World) (a b : Value) (p q : Rat) (K : Nat) (hK : K ≤ 1000000) (ha : TIs w a p K) (hb : TIs w b q K) :
    Calls Tryz.prog 43 #[a, b] w fun e w' => e = .returned (.int .i64 (cmpR p q)) ∧ Below w.heap.size w w' := by
  rw [← cmp_rat]
  exact tcmp_any w a b _ _ _ _ K hK ha hb
theorem t_sign (w : World) (a : Value) (p : Rat) (K : Nat) (hK : K < 900000000) (ha : TIs w a p K) :
    Calls Tryz.prog 92 #[a] w fun e w' => e = .returned (.int .i64 (sgnR p)) ∧ Below w.heap.size w w' := by
  rw [← sgn_rat]
  exact tsign_any w a _ _ K hK ha
theorem t_of (w : World) (z : Int) (h1 : -9223372036854775808 ≤ z) (h2 : z < 9223372036854775808) :
    Calls Tryz.prog 8 #[.int .i64 z] w fun e w' => ∃ v, e = .returned v ∧ TIs w' v (z : Rat) 3 ∧ Below w.heap.size w w' := tof_any w z h1 h2
theorem t_text (w : World) (v : Value) (p : Rat) (K : Nat) (hK : K ≤ 1000000) (h : TIs w v p K) :
    Calls Tryz.prog 10 #[v] w fun e w' => (∃ s, e = .returned (.string s) ∧ TxR s p) ∧ Below w.heap.size w w' := ttext_any w v _ _ K hK h
end Go.Proofs.YtbmdoncdgopoaaaGreatDoor
/- grid: differences, negatives; bounds of texts. -/
namespace Go.Proofs.YtbmdoncdgopoaaaGreatDoor
open Go.RowKit
set_option linter.unusedVariables false
set_option linter.unusedSimpArgs false

theorem q_sub (w : World) (a b : Value) (p q : Rat) (K : Nat) (hK : K ≤ 1000000) (ha : QIs w a p K) (hb : QIs w b q K) :
    Calls Tryz.prog 87 #[a, b] w fun e w' => ∃ v, e = .returned v ∧ QIs w' v (p - q) (2 * K + 12) ∧ Below w.heap.size w w' := by
  have h0 := Int.mul_ne_zero (den_ne p) (den_ne q)
  refine (qsub_any w a b _ _ _ _ K hK ha hb h0).mono ?_
  rintro e w' ⟨v, rfl, hv, b⟩
  rw [(low_rat h0).1, (low_rat h0).2, sub_rat] at hv
  exact ⟨v, rfl, hv, b⟩
theorem t_neg (w : World) (v : Value) (p : Rat) (K : Nat) (hK : K ≤ 400000000) (h : TIs w v p K) :
    Calls Tryz.prog 67 #[v] w fun e w' => ∃ v', e = .returned v' ∧ TIs w' v' (-p) (K + 3) ∧ Below w.heap.size w w' := by
  refine (tneg_any w v _ _ K hK (den_ne p) h).mono ?_
  rintro e w' ⟨v', rfl, hv, b⟩
  refine ⟨v', rfl, ?_, b⟩
  unfold TIs
  rw [Rat.neg_num, Rat.neg_den]
  exact hv
theorem pow_more (K x : Nat) (h : x < 4294967296 ^ K + 1) : x < 4294967296 ^ (K + 1) := by
  have h1 : 1 ≤ (4294967296 : Nat) ^ K := Nat.one_le_pow _ _ (by decide)
  rw [Nat.pow_succ]
  omega
theorem tx_size {s : ByteArray} {q : Rat} {K : Nat} (t : TxR s q) (h1 : q.num.natAbs < 4294967296 ^ K) (h2 : q.den < 4294967296 ^ (K + 1)) : s.size ≤ 20 * K + 15 := by
  rcases t with ⟨_, k1⟩ | ⟨_, a, b, k1, k2, rfl⟩
  · have := ztx_size k1 h1; omega
  · have e1 := ztx_size k1 h1
    have e2 := ztx_size k2 (K := K + 1) (by rw [Int.natAbs_natCast]; exact h2)
    rw [slash_size]; omega
theorem q_size {w : World} {v : Value} {q : Rat} {K : Nat} {s : ByteArray} (h : QIs w v q K) (t : TxR s q) : s.size ≤ 20 * K + 15 := by
  obtain ⟨a1, l1, c1, a2, l2, c2, _, n1, n2⟩ := h
  have k2 := numis_lt n2
  have := q.den_pos
  exact tx_size t (numis_lt n1) (pow_more K _ (by omega))
theorem t_size {w : World} {v : Value} {q : Rat} {K : Nat} {s : ByteArray} (h : TIs w v q K) (t : TxR s q) : s.size ≤ 20 * K + 15 := by
  obtain ⟨a1, l1, c1, a2, l2, c2, m, _, n1, n2, hm⟩ := h
  have k2 := rnumis_lt n2
  have := q.den_pos
  have h1 : 1 ≤ (4294967296 : Nat) ^ K := Nat.one_le_pow _ _ (by decide)
  exact tx_size t (rnumis_lt n1) (pow_more K _ (by rcases hm with hm | hm <;> omega))
end Go.Proofs.YtbmdoncdgopoaaaGreatDoor
