/- Whole numbers: Sub, Mul, Abs. -/
import Derived.Test.YtchibjdhdbkdhaaDoorNAdd
import Derived.Test.YtchibjdhdbkdhaaDoorMul
namespace Go.Proofs.YtchibjdhdbkdhaaDoor
open Go.RowKit
set_option linter.unusedVariables false
set_option maxRecDepth 100000
set_option linter.unusedSimpArgs false
attribute [local go_sem ↓] Go.wp_at_zero Go.wp_at_succ

theorem sgn_mul (x y : Int) : sgn (decide (x < 0) != decide (y < 0)) (x.natAbs * y.natAbs) = x * y := by
  rw [← Int.natAbs_mul]
  by_cases hx : x < 0 <;> by_cases hy : y < 0
  · have : 0 < x * y := Int.mul_pos_of_neg_of_neg hx hy
    simp [sgn, hx, hy]; omega
  · have : x * y ≤ 0 := Int.mul_nonpos_of_nonpos_of_nonneg (by omega) (by omega)
    simp [sgn, hx, hy]; omega
  · have : x * y ≤ 0 := Int.mul_nonpos_of_nonneg_of_nonpos (by omega) (by omega)
    simp [sgn, hx, hy]; omega
  · have : 0 ≤ x * y := Int.mul_nonneg (by omega) (by omega)
    simp [sgn, hx, hy]; omega
set_option maxHeartbeats 2000000 in
/-- Sub: the difference. -/
theorem nsub_any (w : World) (a b : Value) (x y : Int) (K K' : Nat) (hK : K < 1000000000) (hK' : K' < 1000000000) (ha : NumIs w a x K) (hb : NumIs w b y K') :
    Calls Tryd.prog 68 #[a, b] w fun e w' => ∃ v, e = .returned v ∧ NumIs w' v (x - y) (max K K' + 1) ∧ Below w.heap.size w w' := by
  obtain ⟨aa, la, ca, rfl, na0⟩ := ha
  obtain ⟨ab, lb, cb, rfl, nb0⟩ := hb
  have Na0 : NumIs w (.agg #[.slice aa la ca, .bool (decide (x < 0))]) x K := ⟨aa, la, ca, rfl, na0⟩
  have HZ := hid (sgn_not y)
  rw [Int.sub_eq_add_neg]
  generalize decide (x < 0) = b at *
  generalize decide (y < 0) = b' at *
  have hx := boxed3_first w (Obj.cells #[.slice aa la ca, .bool b] 26) (Obj.cells #[.slice ab lb cb, .bool b'] 26) (Obj.cells #[.slice none 0 0, .bool false] 26)
  have hz := boxed3_second w (Obj.cells #[.slice aa la ca, .bool b] 26) (Obj.cells #[.slice ab lb cb, .bool b'] 26) (Obj.cells #[.slice none 0 0, .bool false] 26)
  have hy := boxed3_third w (Obj.cells #[.slice aa la ca, .bool b] 26) (Obj.cells #[.slice ab lb cb, .bool b'] 26) (Obj.cells #[.slice none 0 0, .bool false] 26)
  have hB := boxed3 (Below.refl w.heap.size w) (Obj.cells #[.slice aa la ca, .bool b] 26) (Obj.cells #[.slice ab lb cb, .bool b'] 26) (Obj.cells #[.slice none 0 0, .bool false] 26)
  go_enter Tryd.func68, Tryd.ntmps68
  go_wp2_with fail
  generalize ((w.alloc (Obj.cells #[.slice aa la ca, .bool b] 26)).alloc (Obj.cells #[.slice ab lb cb, .bool b'] 26)).alloc (Obj.cells #[.slice none 0 0, .bool false] 26) = W at *
  have t1 := two_cell0 hx
  have t2 := two_cell1 hx
  have t3 := two_cell0 hz
  have t4 := two_cell1 hz
  have B0 : Below W.heap.size W W.drew := (Below.refl _ _).drew
  have Na := Na0.below hB
  have nb := nb0.below hB
  have HY := hid hy
  clear hx hy hz
  go_region_held3 (fun w' => w'.cell? ⟨w.heap.size, 0, none⟩ = some (.slice aa la ca) ∧ w'.cell? ⟨w.heap.size, 1, none⟩ = some (.bool b) ∧ w'.cell? ⟨w.heap.size + 1, 0, none⟩ = some (.slice ab lb cb) ∧ w'.cell? ⟨w.heap.size + 1, 1, none⟩ = some (.bool b')) ((first | exact ⟨t1, t2, t3, t4⟩ | exact K1 | exact K2 | exact keepN2 K2 (by omega) (by omega) _ _)) (first
    | (have gk := B1; go_at_call 69; refine (nadd_any _ _ _ _ _ _ _ (by omega) (by omega) (Na.below B1) n1).mono ?_; rintro e w2 ⟨v2, rfl, n2, hb2⟩; have B2 := chain2 B1 hb2; have K2 := keepN t1 t2 t3 t4 B2; obtain ⟨ar, lr, cr, rfl, n3⟩ := n2; have hy1 := box_below B2 HY.out (lt_of_block HY.out); have u2 := two_cell0 hy1; have u3 := two_cell1 hy1; have v2 := two_free (k := 0) hy1; have v3 := two_free (k := 1) hy1)
    | (have gk := B0; go_at_call 32; refine (signed_any _ (!b') _ _ _ (by omega) (nb.below B0)).mono ?_; rintro e w1 ⟨v1, rfl, n1, hb1⟩; have B1 := chain2 B0 hb1; have K1 := keepN t1 t2 t3 t4 B1; rw [HZ.out] at n1))
  obtain ⟨k0, k1, kB⟩ := end_two (chain2 hB B2) (show w.heap.size ≤ w.heap.size + 1 + 1 by omega) hy1 (.slice ar lr cr) (.bool (decide (x + -y < 0)))
  have n4 := n3.box2 hy1 (by decide) (.slice ar lr cr) (.bool (decide (x + -y < 0)))
  have HK := hid (And.intro k0 k1)
  clear k0 k1
  go_wp2
  exact bodyPost_ret (v := .agg #[.slice ar lr cr, .bool (decide (x + -y < 0))]) (by simp [results, Tryd.results68, go_sem, HK.out.1, HK.out.2]) rfl ⟨_, rfl, ⟨ar, lr, cr, rfl, n4⟩, kB⟩
end Go.Proofs.YtchibjdhdbkdhaaDoor
