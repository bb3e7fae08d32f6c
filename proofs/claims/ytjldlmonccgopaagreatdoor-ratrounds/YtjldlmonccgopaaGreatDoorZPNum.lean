/- Fractions: copied, Num. -/
import Derived.Test.YtjldlmonccgopaaGreatDoorZPNumber
namespace Go.Proofs.YtjldlmonccgopaaGreatDoor
open Go.RowKit
set_option linter.unusedVariables false
set_option maxRecDepth 100000
set_option linter.unusedSimpArgs false
attribute [local go_sem ↓] Go.wp_at_zero Go.wp_at_succ

theorem num_nought (w : World) : NumIs w (.agg #[.slice none 0 0, .bool false]) 0 0 := ⟨none, 0, 0, rfl, nat_zero w⟩
set_option maxHeartbeats 2000000 in
theorem qcopied_any (w : World) (a : Value) (z : Int) (K : Nat) (hK : K < 900000000) (ha : NumIs w a z K) :
    Calls Tryz.prog 27 #[a] w fun e w' => ∃ v, e = .returned v ∧ NumIs w' v z (K + 1) ∧ Below w.heap.size w w' := by
  obtain ⟨a1, l1, c1, b1, rfl⟩ := num_form ha
  have hx := boxed2_first w (Obj.cells #[.slice a1 l1 c1, .bool b1] 27) (Obj.cells #[.slice none 0 0, .bool false] 27)
  have hy := boxed2_second w (Obj.cells #[.slice a1 l1 c1, .bool b1] 27) (Obj.cells #[.slice none 0 0, .bool false] 27)
  have hB := boxed2 (Below.refl w.heap.size w) (Obj.cells #[.slice a1 l1 c1, .bool b1] 27) (Obj.cells #[.slice none 0 0, .bool false] 27)
  have Na := ha.below hB
  go_enter Tryz.func27, Tryz.ntmps27
  have x0 := two_cell0 hx
  have x1 := two_cell1 hx
  go_wp2_with fail
  generalize (w.alloc (Obj.cells #[.slice a1 l1 c1, .bool b1] 27)).alloc (Obj.cells #[.slice none 0 0, .bool false] 27) = W at *
  refine (nadd_any _ _ _ z 0 K 0 (by omega) (by omega) Na (num_nought _)).mono ?_
  rintro e w2 ⟨v2, rfl, n2, hb2⟩
  obtain ⟨ao, lo, co, dd, rfl⟩ := num_form n2
  have y1 := box_below hb2 hy (lt_of_block hy)
  have u0 := two_cell0 y1
  have u1 := two_cell1 y1
  have f0 := two_free (k := 0) y1
  have f1 := two_free (k := 1) y1
  obtain ⟨o1, o2, o3⟩ := end_two (chain2 hB hb2) (show w.heap.size ≤ w.heap.size + 1 by omega) y1 (.slice ao lo co) (.bool dd)
  have n3 := n2.box2 y1 (by decide) (.slice ao lo co) (.bool dd)
  rw [Int.add_zero] at n3
  have HO := hid (And.intro o1 (And.intro o2 o3))
  clear o1 o2 o3 n2
  go_wp2
  exact bodyPost_ret (v := .agg #[.slice ao lo co, .bool dd]) (by simp [results, Tryz.results27, go_sem, HO.out.1, HO.out.2.1]) rfl ⟨_, rfl, n3.mono (by omega), HO.out.2.2⟩
end Go.Proofs.YtjldlmonccgopaaGreatDoor
