/- Whole numbers: Abs. -/
import Derived.Test.YtchibjdhdbkdhaaDoorNOps
namespace Go.Proofs.YtchibjdhdbkdhaaDoor
open Go.RowKit
set_option linter.unusedVariables false
set_option maxRecDepth 100000
set_option linter.unusedSimpArgs false
attribute [local go_sem ↓] Go.wp_at_zero Go.wp_at_succ

set_option maxHeartbeats 800000 in
/-- Abs: the number without its sign. -/
theorem nabs_any (w : World) (a : Value) (z : Int) (K : Nat) (hK : K < 1000000000) (ha : NumIs w a z K) :
    Calls Tryd.prog 16 #[a] w fun e w' => ∃ v, e = .returned v ∧ NatIs w' v z.natAbs (K + 1) ∧ Below w.heap.size w w' := by
  obtain ⟨ao, l, c, rfl, na0⟩ := ha
  generalize decide (z < 0) = b at *
  have hy : ((w.alloc (Obj.cells #[.slice ao l c, .bool b] 26)).alloc (Obj.cells #[.slice none 0 0] 24)).heap[w.heap.size + 1]? = some (Obj.cells #[.slice none 0 0] 24) := boxed2_second _ _ _
  have hB := boxed2 (Below.refl w.heap.size w) (Obj.cells #[.slice ao l c, .bool b] 26) (Obj.cells #[.slice none 0 0] 24)
  go_enter Tryd.func16, Tryd.ntmps16
  go_wp2_with fail
  generalize (w.alloc (Obj.cells #[.slice ao l c, .bool b] 26)).alloc (Obj.cells #[.slice none 0 0] 24) = W at *
  refine (ncopied_any W _ _ K (by omega) (na0.below hB)).mono ?_
  rintro e w1 ⟨v, rfl, nv, hb1⟩
  obtain ⟨ar, lr, cr, rfl⟩ := nv.form
  have hy1 := box_below hb1 hy (lt_of_block hy)
  have t1 := cell_of_one hy1
  have f1 := free_of_one hy1
  have k1 := cell_of_one (one_setCell (u := .slice ar lr cr) hy1)
  have HK := hid k1
  have n2 := nv.box hy1 (by decide) (.slice ar lr cr)
  have kB := (chain2 hB hb1).setCell (p := ⟨w.heap.size + 1, 0, none⟩) (Nat.le_succ _) (.slice ar lr cr)
  clear k1 hy hy1
  go_wp2
  exact bodyPost_ret (v := .agg #[.slice ar lr cr]) (by simp [results, Tryd.results16, go_sem, HK.out]) rfl ⟨_, rfl, n2, kB⟩
end Go.Proofs.YtchibjdhdbkdhaaDoor
