/- The laws of whole numbers' own helper 'number'. -/
import Derived.Test.YtchibjdhdbkdhaaDoorNParse
import Derived.Test.YtchibjdhdbkdhaaDoorSParse
namespace Go.Proofs.YtchibjdhdbkdhaaDoor
open Go.RowKit
set_option linter.unusedVariables false
set_option maxRecDepth 100000
set_option linter.unusedSimpArgs false

theorem nparse_z (s : ByteArray) (z : Int) (w : World) (hs : s.size ≤ 1000000000) (h : ZTx s z) :
    Calls Tryd.prog 24 #[.string s] w fun e w' => ∃ ao l c, e = .returned (.tuple #[.agg #[.slice ao l c, .bool (decide (z < 0))], .int .i64 0]) ∧ NatIs w' (.agg #[.slice ao l c]) z.natAbs (s.size / 9 + 1) ∧ Below w.heap.size w w' := by
  rcases ztx_cases s with ⟨h1, ⟨y, h2, h3, h4, h5⟩ | ⟨_, h6⟩⟩ | ⟨h1, h2, h3, ⟨h4, h5, h6⟩ | ⟨_, _, h6⟩ | ⟨_, h6⟩⟩
  · have e := h.uniq h3
    subst e
    rw [show decide (z < 0) = false by simp; omega, show z.natAbs = num s by omega]
    exact nparse_above s s w (fun w => cut_no s w h1) hs h4
  · exact absurd h (h6 z)
  · have e := h.uniq h6
    rw [show decide (z < 0) = true by simp; omega, show z.natAbs = num (s.extract 1 s.size) by omega]
    refine (nparse_below s _ w (fun w => cut_yes s w h2 h1) (by simp; omega) h4 h5).mono ?_
    rintro e w' ⟨ao, l, c, rfl, n, hb⟩
    exact ⟨ao, l, c, rfl, n.mono (by simp; omega), hb⟩
  · exact absurd h (h6 z)
  · exact absurd h (h6 z)
theorem nparse_none (s : ByteArray) (w : World) (hs : s.size ≤ 1000000000) (h : ∀ z, ¬ ZTx s z) :
    Calls Tryd.prog 24 #[.string s] w fun e w' => e = .returned (.tuple #[.agg #[.slice none 0 0, .bool false], .int .i64 10]) ∧ Below w.heap.size w w' := by
  rcases ztx_cases s with ⟨h1, ⟨y, h2, h3, h4, h5⟩ | ⟨h5, h6⟩⟩ | ⟨h1, h2, h3, ⟨h4, h5, h6⟩ | ⟨h4, h5, h6⟩ | ⟨h4, h6⟩⟩
  · exact absurd h3 (h _)
  · exact nparse_no s s false w (fun w => cut_no s w h1) hs h5
  · exact absurd h6 (h _)
  · exact nparse_nought s _ w (fun w => cut_yes s w h2 h1) (by simp; omega) h4 h5
  · exact nparse_no s _ true w (fun w => cut_yes s w h2 h1) (by simp; omega) h4
theorem sparse_z (s : ByteArray) (z : Int) (w : World) (hs : s.size ≤ 1000000000) (h : ZTx s z) :
    Calls Tryd.prog 25 #[.string s] w fun e w' => ∃ ao l c, e = .returned (.tuple #[.agg #[.bool (decide (z < 0)), .slice ao l c], .int .i64 0]) ∧ RefIs w' (.agg #[.slice ao l c]) z.natAbs (s.size / 9 + 1) ∧ Below w.heap.size w w' := by
  have h0 := h.sign.1
  rcases ztx_cases s with ⟨h1, ⟨y, h2, h3, h4, h5⟩ | ⟨_, h6⟩⟩ | ⟨h1, h2, h3, ⟨h4, h5, h6⟩ | ⟨_, _, h6⟩ | ⟨_, h6⟩⟩
  · have e := h.uniq h3
    subst e
    refine (sparse_plain s w hs h0 h1 h4).mono ?_
    rintro e w' ⟨v, rfl, ⟨ao, l, c, rfl, n⟩, hb⟩
    rw [show sgn false (num s) = z by simp [sgn]; omega] at n ⊢
    exact ⟨ao, l, c, rfl, n, hb⟩
  · exact absurd h (h6 z)
  · have e := h.uniq h6
    refine (sparse_minus s _ w hs h0 h1 rfl h4 h5).mono ?_
    rintro e w' ⟨v, rfl, ⟨ao, l, c, rfl, n⟩, hb⟩
    rw [show sgn true (num (s.extract 1 s.size)) = z by simp [sgn]; omega] at n ⊢
    exact ⟨ao, l, c, rfl, n.mono (by simp; omega), hb⟩
  · exact absurd h (h6 z)
  · exact absurd h (h6 z)
theorem sparse_none (s : ByteArray) (w : World) (hs : s.size ≤ 1000000000) (h : ∀ z, ¬ ZTx s z) :
    Calls Tryd.prog 25 #[.string s] w fun e w' => e = .returned (.tuple #[.agg #[.bool false, .slice none 0 0], .int .i64 10]) ∧ Below w.heap.size w w' := by
  by_cases hz : s.size = 0
  · exact sparse_empty s w hz
  rcases ztx_cases s with ⟨h1, ⟨y, h2, h3, h4, h5⟩ | ⟨h5, h6⟩⟩ | ⟨h1, h2, h3, ⟨h4, h5, h6⟩ | ⟨h4, h5, h6⟩ | ⟨h4, h6⟩⟩
  · exact absurd h3 (h _)
  · exact sparse_plain_no s w hs (by omega) h1 h5
  · exact absurd h6 (h _)
  · exact sparse_minus_nought s w hs h2 h1 h4 h5
  · exact sparse_minus_no s w hs h2 h1 h4
theorem box_set' {w : World} {b c : Nat} {o : Obj} (hb : w.heap[b]? = some o) (hne : b ≠ c) (k : Nat) (u : Value) : (w.setCell ⟨c, k, none⟩ u).heap[b]? = some o := (Below.heap_setCell w _ u b hne).trans hb
theorem end_pair {w W : World} {p : Nat} {u0 v0 u1 v1 : Value} {t t' : TypeId} (hw : Below w.heap.size w W) (hp : w.heap.size ≤ p) (hx : W.heap[p]? = some (.cells #[u0, v0] t (0, 0))) (hy : W.heap[p + 1]? = some (.cells #[u1, v1] t' (0, 0))) (a b c d : Value) :
    let V := (((W.setCell ⟨p, 0, none⟩ a).setCell ⟨p, 1, none⟩ b).setCell ⟨p + 1, 0, none⟩ c).setCell ⟨p + 1, 1, none⟩ d
    V.heap[p]? = some (.cells #[a, b] t (0, 0)) ∧ V.heap[p + 1]? = some (.cells #[c, d] t' (0, 0)) ∧ Below w.heap.size w V := by
  intro V
  have k1 := two_set1 (x := b) (two_set0 (x := a) hx)
  have k2 := box_set' (box_set' hy (show p + 1 ≠ p by omega) 0 a) (show p + 1 ≠ p by omega) 1 b
  have k3 := two_set1 (x := d) (two_set0 (x := c) k2)
  have k4 := box_set' (box_set' k1 (show p ≠ p + 1 by omega) 0 c) (show p ≠ p + 1 by omega) 1 d
  exact ⟨k4, k3, (((hw.setCell (p := ⟨p, 0, none⟩) hp a).setCell (p := ⟨p, 1, none⟩) hp b).setCell (p := ⟨p + 1, 0, none⟩) (show w.heap.size ≤ p + 1 by omega) c).setCell (p := ⟨p + 1, 1, none⟩) (show w.heap.size ≤ p + 1 by omega) d⟩
set_option maxHeartbeats 1000000 in
theorem number2_yes (s : ByteArray) (z : Int) (w : World) (hs : s.size ≤ 1000000000) (h : ZTx s z) :
    Calls Tryd.prog 5 #[.string s] w fun e w' => (∃ ao l c ar lr cr, e = .returned (.tuple #[.agg #[.slice ao l c, .bool (decide (z < 0))], .agg #[.bool (decide (z < 0)), .slice ar lr cr], .bool true, .bool true]) ∧ NatIs w' (.agg #[.slice ao l c]) z.natAbs (s.size / 9 + 1) ∧ RefIs w' (.agg #[.slice ar lr cr]) z.natAbs (s.size / 9 + 1)) ∧ Below w.heap.size w w' := by
  have hx0 := boxed2_first w (Obj.cells #[.slice none 0 0, .bool false] 26) (Obj.cells #[.bool false, .slice none 0 0] 31)
  have hy0 := boxed2_second w (Obj.cells #[.slice none 0 0, .bool false] 26) (Obj.cells #[.bool false, .slice none 0 0] 31)
  have hw0 := boxed2 (Below.refl w.heap.size w) (Obj.cells #[.slice none 0 0, .bool false] 26) (Obj.cells #[.bool false, .slice none 0 0] 31)
  have P1 := fun w => nparse_z s z w hs h
  have P2 := fun w => sparse_z s z w hs h
  generalize decide (z < 0) = b at *
  generalize z.natAbs = m at *
  go_enter Tryd.func5, Tryd.ntmps5
  go_wp2_with fail
  generalize (w.alloc (Obj.cells #[.slice none 0 0, .bool false] 26)).alloc (Obj.cells #[.bool false, .slice none 0 0] 31) = W0 at *
  refine (P1 W0).mono ?_
  rintro e w1 ⟨aa, la, ca, rfl, hv, hb1⟩
  have hx1 := box_below hb1 hx0 (lt_of_block hx0)
  have hy1 := box_below hb1 hy0 (lt_of_block hy0)
  have hw1 : Below w.heap.size w w1 := chain2 hw0 hb1
  clear hb1 hx0 hy0 hw0 P1
  have hx2 := box_alloc hx1 (Obj.cells #[.slice aa la ca, .bool b] 26)
  have hy2 := box_alloc hy1 (Obj.cells #[.slice aa la ca, .bool b] 26)
  have hz2 := box_new w1 (Obj.cells #[.slice aa la ca, .bool b] 26)
  have hv2 := hv.below ((Below.refl _ _).alloc (Nat.le_refl _) (Obj.cells #[.slice aa la ca, .bool b] 26))
  have hw2 := hw1.alloc hw1.size (Obj.cells #[.slice aa la ca, .bool b] 26)
  have l2 : w.heap.size + 1 < w1.heap.size := lt_of_block hy1
  clear hx1 hy1 hv
  go_wp2_with fail
  generalize w1.alloc (Obj.cells #[.slice aa la ca, .bool b] 26) = W1 at *
  refine (P2 W1).mono ?_
  rintro e w3 ⟨ab, lb, cb, rfl, hr, hb3⟩
  have hx3 := box_alloc (box_below hb3 hx2 (lt_of_block hx2)) (Obj.cells #[.bool b, .slice ab lb cb] 31)
  have hy3 := box_alloc (box_below hb3 hy2 (lt_of_block hy2)) (Obj.cells #[.bool b, .slice ab lb cb] 31)
  have hz3 := box_alloc (box_below hb3 hz2 (lt_of_block hz2)) (Obj.cells #[.bool b, .slice ab lb cb] 31)
  have hu3 := box_new w3 (Obj.cells #[.bool b, .slice ab lb cb] 31)
  have hw3 : Below w.heap.size w (w3.alloc (Obj.cells #[.bool b, .slice ab lb cb] 31)) := (hw2.trans (hb3.mono hw2.size)).alloc (by have := hw2.size; have := hb3.size; omega) _
  have hv3 := (hv2.below hb3).below ((Below.refl _ _).alloc (Nat.le_refl _) (Obj.cells #[.bool b, .slice ab lb cb] 31))
  have hr3 := hr.below ((Below.refl _ _).alloc (Nat.le_refl _) (Obj.cells #[.bool b, .slice ab lb cb] 31))
  have l3 : w1.heap.size < w3.heap.size := lt_of_block (box_below hb3 hz2 (lt_of_block hz2))
  clear hx2 hy2 hz2 hv2 hw2 hb3 hr P2
  go_wp2
  generalize w3.alloc (Obj.cells #[.bool b, .slice ab lb cb] 31) = W3 at *
  have cz := two_cell0 hz3
  have cz1 := two_cell1 hz3
  have cu := two_cell0 hu3
  have cu1 := two_cell1 hu3
  have cx := two_cell0 hx3
  have cx1 := two_cell1 hx3
  have cy := two_cell0 hy3
  have cy1 := two_cell1 hy3
  have fx := two_free (k := 0) hx3
  have fx1 := two_free (k := 1) hx3
  have fy := two_free (k := 0) hy3
  have fy1 := two_free (k := 1) hy3
  have HX := hid (And.intro hx3 hy3)
  clear hz3 hu3 hx3 hy3
  go_region
  go_wp2
  obtain ⟨k1, k2, kB⟩ := end_pair hw3 (Nat.le_refl _) HX.out.1 HX.out.2 (.slice aa la ca) (.bool b) (.bool b) (.slice ab lb cb)
  have hy' := box_set' (box_set' HX.out.2 (show w.heap.size + 1 ≠ w.heap.size by omega) 0 (.slice aa la ca)) (show w.heap.size + 1 ≠ w.heap.size by omega) 1 (.bool b)
  have n1 := (hv3.box2 HX.out.1 (by decide) (.slice aa la ca) (.bool b)).box2 hy' (by decide) (.bool b) (.slice ab lb cb)
  have n2 := (hr3.box2 HX.out.1 (by decide) (.slice aa la ca) (.bool b)).box2 hy' (by decide) (.bool b) (.slice ab lb cb)
  have c1 := two_cell0 k1
  have c2 := two_cell1 k1
  have c3 := two_cell0 k2
  have c4 := two_cell1 k2
  exact bodyPost_ret (v := .tuple #[.agg #[.slice aa la ca, .bool b], .agg #[.bool b, .slice ab lb cb], .bool true, .bool true]) (by simp [results, Tryd.results5, go_sem, c1, c2, c3, c4]) rfl ⟨⟨aa, la, ca, ab, lb, cb, rfl, n1, n2⟩, kB.drew⟩
set_option maxHeartbeats 1000000 in
theorem number2_no (s : ByteArray) (w : World) (hs : s.size ≤ 1000000000) (h : ∀ z, ¬ ZTx s z) :
    Calls Tryd.prog 5 #[.string s] w fun e w' => e = .returned (.tuple #[.agg #[.slice none 0 0, .bool false], .agg #[.bool false, .slice none 0 0], .bool false, .bool true]) ∧ Below w.heap.size w w' := by
  have hx0 := boxed2_first w (Obj.cells #[.slice none 0 0, .bool false] 26) (Obj.cells #[.bool false, .slice none 0 0] 31)
  have hy0 := boxed2_second w (Obj.cells #[.slice none 0 0, .bool false] 26) (Obj.cells #[.bool false, .slice none 0 0] 31)
  have hw0 := boxed2 (Below.refl w.heap.size w) (Obj.cells #[.slice none 0 0, .bool false] 26) (Obj.cells #[.bool false, .slice none 0 0] 31)
  have P1 := fun w => nparse_none s w hs h
  have P2 := fun w => sparse_none s w hs h
  go_enter Tryd.func5, Tryd.ntmps5
  go_wp2_with fail
  generalize (w.alloc (Obj.cells #[.slice none 0 0, .bool false] 26)).alloc (Obj.cells #[.bool false, .slice none 0 0] 31) = W0 at *
  refine (P1 W0).mono ?_
  rintro e w1 ⟨rfl, hb1⟩
  have hx1 := box_below hb1 hx0 (lt_of_block hx0)
  have hy1 := box_below hb1 hy0 (lt_of_block hy0)
  have hw1 : Below w.heap.size w w1 := chain2 hw0 hb1
  clear hb1 hx0 hy0 hw0 P1
  have hx2 := box_alloc hx1 (Obj.cells #[.slice none 0 0, .bool false] 26)
  have hy2 := box_alloc hy1 (Obj.cells #[.slice none 0 0, .bool false] 26)
  have hz2 := box_new w1 (Obj.cells #[.slice none 0 0, .bool false] 26)
  have hw2 := hw1.alloc hw1.size (Obj.cells #[.slice none 0 0, .bool false] 26)
  have l2 : w.heap.size + 1 < w1.heap.size := lt_of_block hy1
  clear hx1 hy1
  go_wp2_with fail
  generalize w1.alloc (Obj.cells #[.slice none 0 0, .bool false] 26) = W1 at *
  refine (P2 W1).mono ?_
  rintro e w3 ⟨rfl, hb3⟩
  have hx3 := box_alloc (box_below hb3 hx2 (lt_of_block hx2)) (Obj.cells #[.bool false, .slice none 0 0] 31)
  have hy3 := box_alloc (box_below hb3 hy2 (lt_of_block hy2)) (Obj.cells #[.bool false, .slice none 0 0] 31)
  have hz3 := box_alloc (box_below hb3 hz2 (lt_of_block hz2)) (Obj.cells #[.bool false, .slice none 0 0] 31)
  have hu3 := box_new w3 (Obj.cells #[.bool false, .slice none 0 0] 31)
  have hw3 : Below w.heap.size w (w3.alloc (Obj.cells #[.bool false, .slice none 0 0] 31)) := (hw2.trans (hb3.mono hw2.size)).alloc (by have := hw2.size; have := hb3.size; omega) _
  have l3 : w1.heap.size < w3.heap.size := lt_of_block (box_below hb3 hz2 (lt_of_block hz2))
  clear hx2 hy2 hz2 hw2 hb3 P2
  go_wp2
  generalize w3.alloc (Obj.cells #[.bool false, .slice none 0 0] 31) = W3 at *
  have cz := two_cell0 hz3
  have cz1 := two_cell1 hz3
  have cu := two_cell0 hu3
  have cu1 := two_cell1 hu3
  have cx := two_cell0 hx3
  have cx1 := two_cell1 hx3
  have cy := two_cell0 hy3
  have cy1 := two_cell1 hy3
  have fx := two_free (k := 0) hx3
  have fx1 := two_free (k := 1) hx3
  have fy := two_free (k := 0) hy3
  have fy1 := two_free (k := 1) hy3
  have HX := hid (And.intro hx3 hy3)
  clear hz3 hu3 hx3 hy3
  go_region
  go_wp2
  obtain ⟨k1, k2, kB⟩ := end_pair hw3 (Nat.le_refl _) HX.out.1 HX.out.2 (.slice none 0 0) (.bool false) (.bool false) (.slice none 0 0)
  have c1 := two_cell0 k1
  have c2 := two_cell1 k1
  have c3 := two_cell0 k2
  have c4 := two_cell1 k2
  exact bodyPost_ret (v := .tuple #[.agg #[.slice none 0 0, .bool false], .agg #[.bool false, .slice none 0 0], .bool false, .bool true]) (by simp [results, Tryd.results5, go_sem, c1, c2, c3, c4]) rfl ⟨rfl, kB.drew⟩
/-- number, whatever the text: the third answer tells whether it is a whole number's; the fourth is true. -/
theorem number2_any (s : ByteArray) (w : World) (hs : s.size ≤ 1000000000) :
    Calls Tryd.prog 5 #[.string s] w fun e w' => (∃ ao l c ar lr cr n b, e = .returned (.tuple #[.agg #[.slice ao l c, .bool n], .agg #[.bool n, .slice ar lr cr], .bool b, .bool true]) ∧
      (b = true → ∃ z, ZTx s z ∧ n = decide (z < 0) ∧ NatIs w' (.agg #[.slice ao l c]) z.natAbs (s.size / 9 + 1) ∧ RefIs w' (.agg #[.slice ar lr cr]) z.natAbs (s.size / 9 + 1))) ∧ Below w.heap.size w w' := by
  by_cases h : ∃ z, ZTx s z
  · obtain ⟨z, h⟩ := h
    refine (number2_yes s z w hs h).mono ?_
    rintro e w' ⟨⟨ao, l, c, ar, lr, cr, rfl, n1, n2⟩, hw⟩
    exact ⟨⟨ao, l, c, ar, lr, cr, _, true, rfl, fun _ => ⟨z, h, rfl, n1, n2⟩⟩, hw⟩
  · refine (number2_no s w hs (fun z hz => h ⟨z, hz⟩)).mono ?_
    rintro e w' ⟨rfl, hw⟩
    exact ⟨⟨none, 0, 0, none, 0, 0, false, false, rfl, fun h => by simp at h⟩, hw⟩
end Go.Proofs.YtchibjdhdbkdhaaDoor
