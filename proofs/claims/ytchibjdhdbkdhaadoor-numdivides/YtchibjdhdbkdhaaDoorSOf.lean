/- The document's whole numbers: QuoRem by 0; Of. -/
import Derived.Test.YtchibjdhdbkdhaaDoorSQuo
import Derived.Test.YtchibjdhdbkdhaaDoorRLit
namespace Go.Proofs.YtchibjdhdbkdhaaDoor
open Go.RowKit
set_option linter.unusedVariables false
set_option maxRecDepth 100000
set_option linter.unusedSimpArgs false
attribute [local go_sem ↓] Go.wp_at_zero Go.wp_at_succ

set_option maxHeartbeats 1000000 in
theorem squo_zero (w : World) (a b : Value) (x : Int) (K : Nat) (hK : K ≤ 100000000) (ha : RNumIs w a x K) (hb : RNumIs w b 0 K) :
    Calls Tryd.prog 21 #[a, b] w fun e w' => e = .returned (.tuple #[.agg #[.bool false, .slice none 0 0], .agg #[.bool false, .slice none 0 0], .int .i64 12]) ∧ Below w.heap.size w w' := by
  obtain ⟨aa, la, ca, rfl, na0⟩ := ha
  obtain ⟨ab, lb, cb, rfl, nb0⟩ := hb
  rw [show decide ((0 : Int) < 0) = false from rfl]
  rw [Int.natAbs_zero] at nb0
  generalize decide (x < 0) = b at *
  obtain ⟨hB, hx, hz, hy, hy', s4⟩ := boxed4 w (Obj.cells #[.bool b, .slice aa la ca] 31) (Obj.cells #[.bool false, .slice ab lb cb] 31) (Obj.cells #[.bool false, .slice none 0 0] 31) (Obj.cells #[.bool false, .slice none 0 0] 31)
  go_enter Tryd.func21, Tryd.ntmps21
  go_wp2_with fail
  generalize (((w.alloc (Obj.cells #[.bool b, .slice aa la ca] 31)).alloc (Obj.cells #[.bool false, .slice ab lb cb] 31)).alloc (Obj.cells #[.bool false, .slice none 0 0] 31)).alloc (Obj.cells #[.bool false, .slice none 0 0] 31) = W at *
  refine (rdivmod_none W _ _ _ K K (na0.below hB) (nb0.below hB)).mono ?_
  rintro e w1 ⟨rfl, hb1⟩
  have X1 := boxed2 hb1 (Obj.cells #[Value.slice none 0 0] 29) (Obj.cells #[Value.slice none 0 0] 29)
  have y1 := box_below X1 hy (lt_of_block hy)
  have y2 := box_below X1 hy' (lt_of_block hy')
  have C1 := chain2 hB X1
  have g0 := two_cell0 y1
  have g1 := two_cell1 y1
  have g2 := two_free (k := 0) y1
  have g3 := two_free (k := 1) y1
  have g4 := two_cell0 y2
  have g5 := two_cell1 y2
  have g6 := two_free (k := 0) y2
  have g7 := two_free (k := 1) y2
  obtain ⟨o1, o2, o3, o4, o5, o6, o7⟩ := sdiv_out C1 (show w.heap.size ≤ w.heap.size + 1 + 1 by omega) (show w.heap.size ≤ w.heap.size + 1 + 1 + 1 by omega) (by omega) y1 y2 (ref_zero _) (ref_zero _) _ rfl (x1 := .bool false) (x2 := .bool false)
  have HC := hid (And.intro o3 (And.intro o4 (And.intro o5 (And.intro o6 o7))))
  clear o1 o2 o3 o4 o5 o6 o7 y1 y2 hx hz hy hy' hb1 s4
  go_wp2
  exact bodyPost_ret (v := .tuple #[.agg #[.bool false, .slice none 0 0], .agg #[.bool false, .slice none 0 0], .int .i64 12]) (by simp [results, Tryd.results21, go_sem, HC.out.2.1, HC.out.2.2.1, HC.out.2.2.2.1, HC.out.2.2.2.2]) rfl ⟨rfl, HC.out.1⟩
set_option maxHeartbeats 1000000 in
theorem sof_any (w : World) (z : Int) (h1 : -9223372036854775808 ≤ z) (h2 : z < 9223372036854775808) :
    Calls Tryd.prog 9 #[.int .i64 z] w fun e w' => ∃ v, e = .returned v ∧ RNumIs w' v z 3 ∧ Below w.heap.size w w' := by
  have hy := box_new w (Obj.cells #[.bool false, .slice none 0 0] 31)
  have hB : Below w.heap.size w (w.alloc (Obj.cells #[.bool false, .slice none 0 0] 31)) := (Below.refl _ _).alloc (Nat.le_refl _) _
  by_cases hz : 0 ≤ z
  · obtain ⟨m, hm⟩ : ∃ m : Nat, z = (m : Int) := ⟨z.natAbs, by omega⟩
    have hm2 : m < 18446744073709551616 := by omega
    subst hm
    have HS := hid (show sgn false m = (m : Int) by simp [sgn])
    go_enter Tryd.func9, Tryd.ntmps9
    go_wp2_with fail
    generalize w.alloc (Obj.cells #[.bool false, .slice none 0 0] 31) = W at *
    refine (rof_any m hm2 W).mono ?_
    rintro e w1 ⟨v1, rfl, n1, hb1⟩
    go_wp2_with fail
    refine (smake_any w1 false v1 m 3 n1).mono ?_
    rintro e w2 ⟨v2, rfl, n2, hb2⟩
    rw [HS.out] at n2
    obtain ⟨a2, l2, c2, rfl, m2⟩ := n2
    obtain ⟨d, hd⟩ : ∃ d, decide ((m : Int) < 0) = d := ⟨_, rfl⟩
    rw [hd]
    have HD := hid hd
    have y1 := box_below hb2 (box_below hb1 hy (lt_of_block hy)) (lt_of_block (box_below hb1 hy (lt_of_block hy)))
    have g0 := two_cell0 y1
    have g1 := two_cell1 y1
    have g2 := two_free (k := 0) y1
    have g3 := two_free (k := 1) y1
    obtain ⟨k0, k1, kB⟩ := end_two (chain2 (chain2 hB hb1) hb2) (Nat.le_refl _) y1 (.bool d) (.slice a2 l2 c2)
    have n4 := m2.box2 y1 (by decide) (.bool d) (.slice a2 l2 c2)
    have HK := hid (And.intro k0 (And.intro k1 (And.intro kB n4)))
    clear k0 k1 kB n4 m2 y1 hb1 hb2 n1 hd hy hB
    go_wp2
    exact bodyPost_ret (v := .agg #[.bool d, .slice a2 l2 c2]) (by simp [results, Tryd.results9, go_sem, HK.out.1, HK.out.2.1]) rfl ⟨_, rfl, ⟨a2, l2, c2, by rw [HD.out], HK.out.2.2.2⟩, HK.out.2.2.1⟩
  · obtain ⟨m, hm⟩ : ∃ m : Nat, z = -(m : Int) := ⟨z.natAbs, by omega⟩
    have HS := hid (show sgn true m = z by simp [sgn]; omega)
    have HM := hid (And.intro hm (show -(z + 1) + 1 = (m : Int) by omega))
    clear hm
    go_enter Tryd.func9, Tryd.ntmps9
    go_wp2_with fail
    generalize w.alloc (Obj.cells #[.bool false, .slice none 0 0] 31) = W at *
    refine (rof_lit m _ HM.out.2 (by have := HM.out.1; omega) W).mono ?_
    rintro e w1 ⟨v1, rfl, n1, hb1⟩
    go_wp2_with fail
    refine (smake_any w1 true v1 m 3 n1).mono ?_
    rintro e w2 ⟨v2, rfl, n2, hb2⟩
    rw [HS.out] at n2
    obtain ⟨a2, l2, c2, rfl, m2⟩ := n2
    obtain ⟨d, hd⟩ : ∃ d, decide (z < 0) = d := ⟨_, rfl⟩
    rw [hd]
    have HD := hid hd
    have y1 := box_below hb2 (box_below hb1 hy (lt_of_block hy)) (lt_of_block (box_below hb1 hy (lt_of_block hy)))
    have g0 := two_cell0 y1
    have g1 := two_cell1 y1
    have g2 := two_free (k := 0) y1
    have g3 := two_free (k := 1) y1
    obtain ⟨k0, k1, kB⟩ := end_two (chain2 (chain2 hB hb1) hb2) (Nat.le_refl _) y1 (.bool d) (.slice a2 l2 c2)
    have n4 := m2.box2 y1 (by decide) (.bool d) (.slice a2 l2 c2)
    have HK := hid (And.intro k0 (And.intro k1 (And.intro kB n4)))
    clear k0 k1 kB n4 m2 y1 hb1 hb2 n1 hd hy hB
    go_wp2
    exact bodyPost_ret (v := .agg #[.bool d, .slice a2 l2 c2]) (by simp [results, Tryd.results9, go_sem, HK.out.1, HK.out.2.1]) rfl ⟨_, rfl, ⟨a2, l2, c2, by rw [HD.out], HK.out.2.2.2⟩, HK.out.2.2.1⟩
end Go.Proofs.YtchibjdhdbkdhaaDoor
