/- Whole numbers: Of. -/
import Derived.Test.YtchibjdhdbkdhaaDoorNBase
import Derived.Test.YtchibjdhdbkdhaaDoorOf
namespace Go.Proofs.YtchibjdhdbkdhaaDoor
open Go.RowKit
set_option linter.unusedVariables false
set_option maxRecDepth 100000
set_option linter.unusedSimpArgs false

set_option maxHeartbeats 1000000 in
theorem nof_any (w : World) (z : Int) (h1 : -9223372036854775808 ≤ z) (h2 : z < 9223372036854775808) :
    Calls Tryd.prog 6 #[.int .i64 z] w fun e w' => ∃ v, e = .returned v ∧ NumIs w' v z 2 ∧ Below w.heap.size w w' := by
  have hy := box_new w (Obj.cells #[.slice none 0 0, .bool false] 26)
  have hB : Below w.heap.size w (w.alloc (Obj.cells #[.slice none 0 0, .bool false] 26)) := (Below.refl _ _).alloc (Nat.le_refl _) _
  by_cases hz : z < 0
  · obtain ⟨m, hm⟩ : ∃ m : Nat, z = -(m : Int) := ⟨z.natAbs, by omega⟩
    have e0 : IntKind.u64.wrap (-(IntKind.u64.wrap z)) = (m : Int) := by
      simp [IntKind.wrap, IntKind.bits, IntKind.signed]; omega
    have hm2 : m < 18446744073709551616 := by omega
    have HM := hid (And.intro hm hz)
    have hn : z.natAbs = m := by omega
    clear hm
    have HN := hid hn
    clear hn
    go_enter Tryd.func6, Tryd.ntmps6
    go_wp2_with fail
    refine (of_any m hm2 _).mono ?_
    rintro e w1 ⟨v, rfl, nv, hb⟩
    obtain ⟨a1, l1, c1, rfl⟩ := nv.form
    have y1 := box_below hb hy (by simp)
    have u0 := two_cell0 y1
    have u1 := two_cell1 y1
    have v0 := two_free (k := 0) y1
    have v1 := two_free (k := 1) y1
    obtain ⟨k0, k1, kB⟩ := end_two (chain2 hB hb) (Nat.le_refl _) y1 (.slice a1 l1 c1) (.bool true)
    have n4 := nv.box2 y1 (by decide) (.slice a1 l1 c1) (.bool true)
    have HK := hid (And.intro k0 k1)
    clear k0 k1 nv hb y1
    go_wp2
    exact bodyPost_ret (v := .agg #[.slice a1 l1 c1, .bool true]) (by simp [results, Tryd.results6, go_sem, HK.out.1, HK.out.2]) rfl ⟨_, rfl, ⟨a1, l1, c1, by simp [HM.out.2], HN.out.symm ▸ n4⟩, kB⟩
  · obtain ⟨m, hm⟩ : ∃ m : Nat, z = (m : Int) := ⟨z.natAbs, by omega⟩
    have hm2 : m < 18446744073709551616 := by omega
    have HM := hid (And.intro hm hz)
    subst hm
    go_enter Tryd.func6, Tryd.ntmps6
    go_wp2_with fail
    refine (of_any m hm2 _).mono ?_
    rintro e w1 ⟨v, rfl, nv, hb⟩
    obtain ⟨a1, l1, c1, rfl⟩ := nv.form
    have y1 := box_below hb hy (by simp)
    have u0 := two_cell0 y1
    have u1 := two_cell1 y1
    have v0 := two_free (k := 0) y1
    have v1 := two_free (k := 1) y1
    obtain ⟨k0, k1, kB⟩ := end_two (chain2 hB hb) (Nat.le_refl _) y1 (.slice a1 l1 c1) (.bool false)
    have n4 := nv.box2 y1 (by decide) (.slice a1 l1 c1) (.bool false)
    have HK := hid (And.intro k0 k1)
    clear k0 k1 nv hb y1
    go_wp2
    exact bodyPost_ret (v := .agg #[.slice a1 l1 c1, .bool false]) (by simp [results, Tryd.results6, go_sem, HK.out.1, HK.out.2]) rfl ⟨_, rfl, ⟨a1, l1, c1, by simp, by rw [Int.natAbs_natCast]; exact n4⟩, kB⟩
end Go.Proofs.YtchibjdhdbkdhaaDoor
