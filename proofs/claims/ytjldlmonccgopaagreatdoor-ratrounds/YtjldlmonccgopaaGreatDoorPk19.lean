/- SAdd, NMake, NCmp. -/
import Derived.Test.YtjldlmonccgopaaGreatDoorPk7
import Derived.Test.YtjldlmonccgopaaGreatDoorPk18
import Derived.Test.YtjldlmonccgopaaGreatDoorPk10
/- The document's whole numbers: Add, Mul. -/
namespace Go.Proofs.YtjldlmonccgopaaGreatDoor
open Go.RowKit
set_option linter.unusedVariables false
set_option maxRecDepth 100000
set_option linter.unusedSimpArgs false
attribute [local go_sem ↓] Go.wp_at_zero Go.wp_at_succ

set_option maxHeartbeats 1000000 in
theorem sadd_same (w : World) (aa ab : Option Addr) (la ca lb cb m n K K' : Nat) (b : Bool) (hK : K < 1000000000) (hK' : K' < 1000000000) (na0 : RefIs w (.agg #[.slice aa la ca]) m K) (nb0 : RefIs w (.agg #[.slice ab lb cb]) n K') :
    Calls Tryz.prog 47 #[.agg #[.bool b, .slice aa la ca], .agg #[.bool b, .slice ab lb cb]] w fun e w' => ∃ v, e = .returned v ∧ RNumIs w' v (sgn b (m + n)) (max K K' + 1) ∧ Below w.heap.size w w' := by
  have hx := boxed3_first w (Obj.cells #[.bool b, .slice aa la ca] 34) (Obj.cells #[.bool b, .slice ab lb cb] 34) (Obj.cells #[.bool false, .slice none 0 0] 34)
  have hz := boxed3_second w (Obj.cells #[.bool b, .slice aa la ca] 34) (Obj.cells #[.bool b, .slice ab lb cb] 34) (Obj.cells #[.bool false, .slice none 0 0] 34)
  have hy := boxed3_third w (Obj.cells #[.bool b, .slice aa la ca] 34) (Obj.cells #[.bool b, .slice ab lb cb] 34) (Obj.cells #[.bool false, .slice none 0 0] 34)
  have hB := boxed3 (Below.refl w.heap.size w) (Obj.cells #[.bool b, .slice aa la ca] 34) (Obj.cells #[.bool b, .slice ab lb cb] 34) (Obj.cells #[.bool false, .slice none 0 0] 34)
  go_enter Tryz.func47, Tryz.ntmps47
  go_wp2_with fail
  generalize ((w.alloc (Obj.cells #[.bool b, .slice aa la ca] 34)).alloc (Obj.cells #[.bool b, .slice ab lb cb] 34)).alloc (Obj.cells #[.bool false, .slice none 0 0] 34) = W at *
  have t1 := two_cell0 hx
  have t2 := two_cell1 hx
  have t3 := two_cell0 hz
  have t4 := two_cell1 hz
  have B0 : Below W.heap.size W W.drew := (Below.refl _ _).drew
  have na := na0.below hB
  have nb := nb0.below hB
  have HY := hid hy
  clear hx hy hz
  go_region_held3 (fun w' => w'.cell? ⟨w.heap.size, 0, none⟩ = some (.bool b) ∧ w'.cell? ⟨w.heap.size, 1, none⟩ = some (.slice aa la ca) ∧ w'.cell? ⟨w.heap.size + 1, 0, none⟩ = some (.bool b) ∧ w'.cell? ⟨w.heap.size + 1, 1, none⟩ = some (.slice ab lb cb)) ((first | exact ⟨t1, t2, t3, t4⟩ | exact K1 | exact K2 | exact keepN2 K2 (by omega) (by omega) _ _)) (first
    | (have gk := B1; go_at_call 56; refine (smake_any _ _ _ _ _ n1).mono ?_; rintro e w2 ⟨v2, rfl, n2, hb2⟩; have B2 := chain2 B1 hb2; have K2 := keepN t1 t2 t3 t4 B2; obtain ⟨ar, lr, cr, rfl, n3⟩ := n2; have hy1 := box_below B2 HY.out (lt_of_block HY.out); have u2 := two_cell0 hy1; have u3 := two_cell1 hy1; have v2 := two_free (k := 0) hy1; have v3 := two_free (k := 1) hy1)
    | (have gk := B0; go_at_call 79; refine (radd_any _ _ _ _ _ _ _ (by omega) (by omega) (na.below B0) (nb.below B0)).mono ?_; rintro e w1 ⟨v1, rfl, n1, hb1⟩; have B1 := chain2 B0 hb1; have K1 := keepN t1 t2 t3 t4 B1))
  obtain ⟨k0, k1, kB⟩ := end_two (chain2 hB B2) (show w.heap.size ≤ w.heap.size + 1 + 1 by omega) hy1 (.bool (decide (sgn b (m + n) < 0))) (.slice ar lr cr)
  have n4 := n3.box2 hy1 (by decide) (.bool (decide (sgn b (m + n) < 0))) (.slice ar lr cr)
  have HK := hid (And.intro k0 k1)
  clear k0 k1
  go_wp2
  exact bodyPost_ret (v := .agg #[.bool (decide (sgn b (m + n) < 0)), .slice ar lr cr]) (by simp [results, Tryz.results47, go_sem, HK.out.1, HK.out.2]) rfl ⟨_, rfl, ⟨ar, lr, cr, rfl, n4⟩, kB⟩
set_option maxHeartbeats 2000000 in
theorem sadd_other (w : World) (aa ab : Option Addr) (la ca lb cb m n K K' : Nat) (b b' : Bool) (r : Int) (hr1 : n ≤ m → sgn b (m - n) = r) (hr2 : ¬ n ≤ m → sgn b' (n - m) = r) (hbb : b ≠ b') (hK : K < 1000000000) (hK' : K' < 1000000000) (na0 : RefIs w (.agg #[.slice aa la ca]) m K) (nb0 : RefIs w (.agg #[.slice ab lb cb]) n K') :
    Calls Tryz.prog 47 #[.agg #[.bool b, .slice aa la ca], .agg #[.bool b', .slice ab lb cb]] w fun e w' => ∃ v, e = .returned v ∧ RNumIs w' v r (max K K' + 1) ∧ Below w.heap.size w w' := by
  have hx := boxed3_first w (Obj.cells #[.bool b, .slice aa la ca] 34) (Obj.cells #[.bool b', .slice ab lb cb] 34) (Obj.cells #[.bool false, .slice none 0 0] 34)
  have hz := boxed3_second w (Obj.cells #[.bool b, .slice aa la ca] 34) (Obj.cells #[.bool b', .slice ab lb cb] 34) (Obj.cells #[.bool false, .slice none 0 0] 34)
  have hy := boxed3_third w (Obj.cells #[.bool b, .slice aa la ca] 34) (Obj.cells #[.bool b', .slice ab lb cb] 34) (Obj.cells #[.bool false, .slice none 0 0] 34)
  have hB := boxed3 (Below.refl w.heap.size w) (Obj.cells #[.bool b, .slice aa la ca] 34) (Obj.cells #[.bool b', .slice ab lb cb] 34) (Obj.cells #[.bool false, .slice none 0 0] 34)
  have hbe : (b == b') = false := by simpa using hbb
  have HR := hid (And.intro hr1 hr2)
  clear hr1 hr2
  go_enter Tryz.func47, Tryz.ntmps47
  go_wp2_with fail
  generalize ((w.alloc (Obj.cells #[.bool b, .slice aa la ca] 34)).alloc (Obj.cells #[.bool b', .slice ab lb cb] 34)).alloc (Obj.cells #[.bool false, .slice none 0 0] 34) = W at *
  have na := na0.below hB
  have nb := nb0.below hB
  refine (rcmp_any W _ _ _ _ _ _ (by omega) (by omega) na nb).mono ?_
  rintro e w0 ⟨rfl, hb0⟩
  have hx0 := box_below hb0 hx (lt_of_block hx)
  have hz0 := box_below hb0 hz (lt_of_block hz)
  have hy0 := box_below hb0 hy (lt_of_block hy)
  have na := na.below hb0
  have nb := nb.below hb0
  have c0 := chain2 hB hb0
  have t1 := two_cell1 hx0
  have t3 := two_cell1 hz0
  clear hx hz hy hB hb0
  by_cases hmn : n ≤ m
  · have HS := hid (HR.out.1 hmn)
    have hc : ¬ cmpI m n < 0 := by unfold cmpI; (repeat' split) <;> omega
    generalize cmpI m n = q at *
    clear hmn
    go_wp2_with fail
    refine (rsub_both _ _ _ _ _ _ _ _ _ _ _ (by omega) (by omega) na nb).mono ?_
    rintro e w1 ⟨ar, lr, cr, rfl, n1, hb1⟩
    have hx3 := below_alloc' hb1 (Nat.le_refl _) (Obj.cells #[.slice ar lr cr] 32)
    have c1 := chain2 c0 hx3
    have hx1 := box_below hx3 hx0 (lt_of_block hx0)
    have hy1 := box_below hx3 hy0 (lt_of_block hy0)
    have n1 := n1.below ((Below.refl _ _).alloc (Nat.le_refl _) (Obj.cells #[.slice ar lr cr] 32))
    have t2 := two_cell0 hx1
    clear hx3 hb1 hx0 hz0 hy0 hx1 t1 t3
    go_wp2_with fail
    generalize w1.alloc (Obj.cells #[.slice ar lr cr] 32) = W1 at *
    refine (smake_any _ _ _ _ _ n1).mono ?_
    rintro e w2 ⟨v2, rfl, n2, hb2⟩
    obtain ⟨aq, lq, cq, rfl, n3⟩ := n2
    have hy2 := box_below hb2 hy1 (lt_of_block hy1)
    have u2 := two_cell0 hy2
    have u3 := two_cell1 hy2
    have v2 := two_free (k := 0) hy2
    have v3 := two_free (k := 1) hy2
    obtain ⟨k0, k1, kB⟩ := end_two (chain2 c1 hb2) (show w.heap.size ≤ w.heap.size + 1 + 1 by omega) hy2 (.bool (decide (sgn b (m - n) < 0))) (.slice aq lq cq)
    have n4 := n3.box2 hy2 (by decide) (.bool (decide (sgn b (m - n) < 0))) (.slice aq lq cq)
    have HK := hid (And.intro k0 k1)
    clear k0 k1
    go_wp2
    refine bodyPost_ret (v := .agg #[.bool (decide (sgn b (m - n) < 0)), .slice aq lq cq]) (by simp [results, Tryz.results47, go_sem, HK.out.1, HK.out.2]) rfl ⟨_, rfl, ?_, kB⟩
    rw [← HS.out]
    exact ⟨aq, lq, cq, rfl, n4.mono (by omega)⟩
  · have HS := hid (HR.out.2 hmn)
    have hc : cmpI m n < 0 := by unfold cmpI; (repeat' split) <;> omega
    generalize cmpI m n = q at *
    clear hmn
    go_wp2_with fail
    refine (rsub_both _ _ _ _ _ _ _ _ _ _ _ (by omega) (by omega) nb na).mono ?_
    rintro e w1 ⟨ar, lr, cr, rfl, n1, hb1⟩
    have hx3 := below_alloc' hb1 (Nat.le_refl _) (Obj.cells #[.slice ar lr cr] 32)
    have c1 := chain2 c0 hx3
    have hz1 := box_below hx3 hz0 (lt_of_block hz0)
    have hy1 := box_below hx3 hy0 (lt_of_block hy0)
    have n1 := n1.below ((Below.refl _ _).alloc (Nat.le_refl _) (Obj.cells #[.slice ar lr cr] 32))
    have t2 := two_cell0 hz1
    clear hx3 hb1 hx0 hz0 hy0 hz1 t1 t3
    go_wp2_with fail
    generalize w1.alloc (Obj.cells #[.slice ar lr cr] 32) = W1 at *
    refine (smake_any _ _ _ _ _ n1).mono ?_
    rintro e w2 ⟨v2, rfl, n2, hb2⟩
    obtain ⟨aq, lq, cq, rfl, n3⟩ := n2
    have hy2 := box_below hb2 hy1 (lt_of_block hy1)
    have u2 := two_cell0 hy2
    have u3 := two_cell1 hy2
    have v2 := two_free (k := 0) hy2
    have v3 := two_free (k := 1) hy2
    obtain ⟨k0, k1, kB⟩ := end_two (chain2 c1 hb2) (show w.heap.size ≤ w.heap.size + 1 + 1 by omega) hy2 (.bool (decide (sgn b' (n - m) < 0))) (.slice aq lq cq)
    have n4 := n3.box2 hy2 (by decide) (.bool (decide (sgn b' (n - m) < 0))) (.slice aq lq cq)
    have HK := hid (And.intro k0 k1)
    clear k0 k1
    go_wp2
    refine bodyPost_ret (v := .agg #[.bool (decide (sgn b' (n - m) < 0)), .slice aq lq cq]) (by simp [results, Tryz.results47, go_sem, HK.out.1, HK.out.2]) rfl ⟨_, rfl, ?_, kB⟩
    rw [← HS.out]
    exact ⟨aq, lq, cq, rfl, n4.mono (by omega)⟩
/-- The document's Add. -/
theorem sadd_any (w : World) (a b : Value) (x y : Int) (K K' : Nat) (hK : K < 1000000000) (hK' : K' < 1000000000) (ha : RNumIs w a x K) (hb : RNumIs w b y K') :
    Calls Tryz.prog 47 #[a, b] w fun e w' => ∃ v, e = .returned v ∧ RNumIs w' v (x + y) (max K K' + 1) ∧ Below w.heap.size w w' := by
  obtain ⟨aa, la, ca, rfl, na⟩ := ha
  obtain ⟨ab, lb, cb, rfl, nb⟩ := hb
  by_cases h : decide (x < 0) = decide (y < 0)
  · have e := sgn_add_same h
    rw [← h, ← e]
    exact sadd_same w aa ab la ca lb cb _ _ K K' _ hK hK' na nb
  · exact sadd_other w aa ab la ca lb cb _ _ K K' _ _ _ (fun hl => sgn_add_more h hl) (fun hl => sgn_add_less h (by omega)) h hK hK' na nb
set_option maxHeartbeats 2000000 in
theorem smul_walk (w : World) (aa ab : Option Addr) (la ca lb cb m n K K' : Nat) (b b' : Bool) (hK : K < 400000000) (hK' : K' < 400000000) (na0 : RefIs w (.agg #[.slice aa la ca]) m K) (nb0 : RefIs w (.agg #[.slice ab lb cb]) n K') :
    Calls Tryz.prog 77 #[.agg #[.bool b, .slice aa la ca], .agg #[.bool b', .slice ab lb cb]] w fun e w' => ∃ v, e = .returned v ∧ RNumIs w' v (sgn (b != b') (m * n)) (K + K') ∧ Below w.heap.size w w' := by
  have hx := boxed3_first w (Obj.cells #[.bool b, .slice aa la ca] 34) (Obj.cells #[.bool b', .slice ab lb cb] 34) (Obj.cells #[.bool false, .slice none 0 0] 34)
  have hz := boxed3_second w (Obj.cells #[.bool b, .slice aa la ca] 34) (Obj.cells #[.bool b', .slice ab lb cb] 34) (Obj.cells #[.bool false, .slice none 0 0] 34)
  have hy := boxed3_third w (Obj.cells #[.bool b, .slice aa la ca] 34) (Obj.cells #[.bool b', .slice ab lb cb] 34) (Obj.cells #[.bool false, .slice none 0 0] 34)
  have hB := boxed3 (Below.refl w.heap.size w) (Obj.cells #[.bool b, .slice aa la ca] 34) (Obj.cells #[.bool b', .slice ab lb cb] 34) (Obj.cells #[.bool false, .slice none 0 0] 34)
  go_enter Tryz.func77, Tryz.ntmps77
  go_wp2_with fail
  generalize ((w.alloc (Obj.cells #[.bool b, .slice aa la ca] 34)).alloc (Obj.cells #[.bool b', .slice ab lb cb] 34)).alloc (Obj.cells #[.bool false, .slice none 0 0] 34) = W at *
  have t1 := two_cell0 hx
  have t2 := two_cell1 hx
  have t3 := two_cell0 hz
  have t4 := two_cell1 hz
  have B0 : Below W.heap.size W W.drew := (Below.refl _ _).drew
  have na := na0.below hB
  have nb := nb0.below hB
  have HY := hid hy
  clear hx hy hz
  go_region_held3 (fun w' => w'.cell? ⟨w.heap.size, 0, none⟩ = some (.bool b) ∧ w'.cell? ⟨w.heap.size, 1, none⟩ = some (.slice aa la ca) ∧ w'.cell? ⟨w.heap.size + 1, 0, none⟩ = some (.bool b') ∧ w'.cell? ⟨w.heap.size + 1, 1, none⟩ = some (.slice ab lb cb)) ((first | exact ⟨t1, t2, t3, t4⟩ | exact K1 | exact K2 | exact keepN2 K2 (by omega) (by omega) _ _)) (first
    | (have gk := B1; go_at_call 56; refine (smake_any _ (b != b') _ _ _ n1).mono ?_; rintro e w2 ⟨v2, rfl, n2, hb2⟩; have B2 := chain2 B1 hb2; have K2 := keepN t1 t2 t3 t4 B2; obtain ⟨ar, lr, cr, rfl, n3⟩ := n2; have hy1 := box_below B2 HY.out (lt_of_block HY.out); have u2 := two_cell0 hy1; have u3 := two_cell1 hy1; have v2 := two_free (k := 0) hy1; have v3 := two_free (k := 1) hy1)
    | (have gk := B0; go_at_call 105; refine (rmul_any _ _ _ _ _ _ _ (by omega) (by omega) (na.below B0) (nb.below B0)).mono ?_; rintro e w1 ⟨v1, rfl, n1, hb1⟩; have B1 := chain2 B0 hb1; have K1 := keepN t1 t2 t3 t4 B1))
  obtain ⟨k0, k1, kB⟩ := end_two (chain2 hB B2) (show w.heap.size ≤ w.heap.size + 1 + 1 by omega) hy1 (.bool (decide (sgn (b != b') (m * n) < 0))) (.slice ar lr cr)
  have n4 := n3.box2 hy1 (by decide) (.bool (decide (sgn (b != b') (m * n) < 0))) (.slice ar lr cr)
  have HK := hid (And.intro k0 k1)
  clear k0 k1
  go_wp2
  exact bodyPost_ret (v := .agg #[.bool (decide (sgn (b != b') (m * n) < 0)), .slice ar lr cr]) (by simp [results, Tryz.results77, go_sem, HK.out.1, HK.out.2]) rfl ⟨_, rfl, ⟨ar, lr, cr, rfl, n4⟩, kB⟩
/-- Mul: the product. -/
theorem smul_any (w : World) (a b : Value) (x y : Int) (K K' : Nat) (hK : K < 400000000) (hK' : K' < 400000000) (ha : RNumIs w a x K) (hb : RNumIs w b y K') :
    Calls Tryz.prog 77 #[a, b] w fun e w' => ∃ v, e = .returned v ∧ RNumIs w' v (x * y) (K + K') ∧ Below w.heap.size w w' := by
  obtain ⟨aa, la, ca, rfl, na⟩ := ha
  obtain ⟨ab, lb, cb, rfl, nb⟩ := hb
  rw [← sgn_mul]
  exact smul_walk w aa ab la ca lb cb _ _ K K' _ _ hK hK' na nb
set_option maxHeartbeats 800000 in
/-- The document's Sign. -/
theorem ssign_any (w : World) (a : Value) (z : Int) (K : Nat) (hK : K ≤ 1000000000) (ha : RNumIs w a z K) :
    Calls Tryz.prog 46 #[a] w fun e w' => e = .returned (.int .i64 (signZ z)) ∧ Below w.heap.size w w' := by
  obtain ⟨ao, l, c, rfl, na⟩ := ha
  have hl := (ref_len na).1
  have hB : ∀ o : Obj, Below w.heap.size w (w.alloc o) := fun o => (Below.refl _ _).alloc (Nat.le_refl _) _
  rcases (show (z < 0) ∨ (¬ z < 0 ∧ l = 0 ∧ z = 0) ∨ (¬ z < 0 ∧ 0 < l ∧ 0 < z) by omega) with h | ⟨h, h1, h2⟩ | ⟨h, h1, h2⟩
  · rw [show decide (z < 0) = true by simp [h]]
    have HS := hid (show signZ z = -1 by simp [signZ, h])
    go_enter Tryz.func46, Tryz.ntmps46
    go_wp2
    go_ret
    exact ⟨by rw [HS.out]; rfl, hB _⟩
  · rw [show decide (z < 0) = false by simp; omega]
    have HS := hid (show signZ z = 0 by simp [signZ, h2])
    subst h1
    clear hl h2 h na
    go_enter Tryz.func46, Tryz.ntmps46
    go_wp2
    go_ret
    exact ⟨by rw [HS.out]; rfl, hB _⟩
  · rw [show decide (z < 0) = false by simp; omega]
    have HS := hid (show signZ z = 1 by unfold signZ; (repeat' split) <;> omega)
    clear hl h2 h na
    go_enter Tryz.func46, Tryz.ntmps46
    go_wp2
    go_ret
    exact ⟨by rw [HS.out]; rfl, hB _⟩
set_option maxHeartbeats 800000 in
/-- The document's Neg. -/
theorem sneg_any (w : World) (a : Value) (z : Int) (K : Nat) (hK : K < 1000000000) (ha : RNumIs w a z K) :
    Calls Tryz.prog 90 #[a] w fun e w' => ∃ v, e = .returned v ∧ RNumIs w' v (-z) K ∧ Below w.heap.size w w' := by
  obtain ⟨ao, l, c, rfl, na0⟩ := ha
  have HZ := hid (sgn_not z)
  generalize decide (z < 0) = b at *
  have hy := boxed2_second w (Obj.cells #[.bool b, .slice ao l c] 34) (Obj.cells #[.bool false, .slice none 0 0] 34)
  have hB := boxed2 (Below.refl w.heap.size w) (Obj.cells #[.bool b, .slice ao l c] 34) (Obj.cells #[.bool false, .slice none 0 0] 34)
  go_enter Tryz.func90, Tryz.ntmps90
  go_wp2_with fail
  generalize (w.alloc (Obj.cells #[.bool b, .slice ao l c] 34)).alloc (Obj.cells #[.bool false, .slice none 0 0] 34) = W at *
  refine (smake_any W (!b) _ _ _ (na0.below hB)).mono ?_
  rintro e w1 ⟨v, rfl, n1, hb1⟩
  obtain ⟨ar, lr, cr, rfl, n2⟩ := n1
  have hy1 := box_below hb1 hy (lt_of_block hy)
  have u2 := two_cell0 hy1
  have u3 := two_cell1 hy1
  have v2 := two_free (k := 0) hy1
  have v3 := two_free (k := 1) hy1
  obtain ⟨k0, k1, kB⟩ := end_two (chain2 hB hb1) (Nat.le_succ _) hy1 (.bool (decide (sgn (!b) z.natAbs < 0))) (.slice ar lr cr)
  have n4 := n2.box2 hy1 (by decide) (.bool (decide (sgn (!b) z.natAbs < 0))) (.slice ar lr cr)
  have HK := hid (And.intro k0 k1)
  clear k0 k1 hy
  go_wp2
  refine bodyPost_ret (v := .agg #[.bool (decide (sgn (!b) z.natAbs < 0)), .slice ar lr cr]) (by simp [results, Tryz.results90, go_sem, HK.out.1, HK.out.2]) rfl ⟨_, rfl, ?_, kB⟩
  rw [HZ.out] at n4 ⊢
  exact ⟨ar, lr, cr, rfl, n4⟩
end Go.Proofs.YtjldlmonccgopaaGreatDoor
/- Whole numbers: Make. -/
namespace Go.Proofs.YtjldlmonccgopaaGreatDoor
open Go.RowKit
set_option linter.unusedVariables false
set_option maxRecDepth 100000
set_option linter.unusedSimpArgs false
attribute [local go_sem ↓] Go.wp_at_zero Go.wp_at_succ
set_option maxHeartbeats 800000 in
theorem nmake_any (w : World) (b : Bool) (a : Value) (m K : Nat) (hK : K < 1000000000) (ha : NatIs w a m K) :
    Calls Tryz.prog 82 #[.bool b, a] w fun e w' => ∃ v, e = .returned v ∧ NumIs w' v (sgn b m) (K + 1) ∧ Below w.heap.size w w' := by
  obtain ⟨ao, l, c, rfl⟩ := ha.form
  have hx := boxed2_first w (Obj.cells #[.slice ao l c] 25) (Obj.cells #[.slice none 0 0, .bool false] 27)
  have hy := boxed2_second w (Obj.cells #[.slice ao l c] 25) (Obj.cells #[.slice none 0 0, .bool false] 27)
  have hB := boxed2 (Below.refl w.heap.size w) (Obj.cells #[.slice ao l c] 25) (Obj.cells #[.slice none 0 0, .bool false] 27)
  go_enter Tryz.func82, Tryz.ntmps82
  go_wp2_with fail
  generalize (w.alloc (Obj.cells #[.slice ao l c] 25)).alloc (Obj.cells #[.slice none 0 0, .bool false] 27) = W at *
  have na := ha.below hB
  have HY := hid hy
  have t1 := cell_of_one hx
  clear hx hy
  refine (ncopied_any _ _ _ _ (by omega) na).mono ?_
  rintro e w1 ⟨v1, rfl, n1, hb1⟩
  have t2 := kc hb1 t1
  go_wp2_with fail
  refine (signed_any _ _ _ _ _ (by omega) n1).mono ?_
  rintro e w2 ⟨v2, rfl, n2, hb2⟩
  have B2 := chain2 hb1 hb2
  obtain ⟨ar, lr, cr, rfl, n3⟩ := n2
  have hy1 := box_below B2 HY.out (lt_of_block HY.out)
  have u2 := two_cell0 hy1
  have u3 := two_cell1 hy1
  have v2 := two_free (k := 0) hy1
  have v3 := two_free (k := 1) hy1
  obtain ⟨k0, k1, kB⟩ := end_two (chain2 hB B2) (Nat.le_succ _) hy1 (.slice ar lr cr) (.bool (decide (sgn b m < 0)))
  have n4 := n3.box2 hy1 (by decide) (.slice ar lr cr) (.bool (decide (sgn b m < 0)))
  have HK := hid (And.intro k0 k1)
  clear k0 k1
  go_wp2
  exact bodyPost_ret (v := .agg #[.slice ar lr cr, .bool (decide (sgn b m < 0))]) (by simp [results, Tryz.results82, go_sem, HK.out.1, HK.out.2]) rfl ⟨_, rfl, ⟨ar, lr, cr, rfl, n4⟩, kB⟩
end Go.Proofs.YtjldlmonccgopaaGreatDoor
/- Whole numbers: Cmp. -/
namespace Go.Proofs.YtjldlmonccgopaaGreatDoor
open Go.RowKit
set_option linter.unusedVariables false
set_option maxRecDepth 100000
set_option linter.unusedSimpArgs false
attribute [local go_sem ↓] Go.wp_at_zero Go.wp_at_succ

set_option maxHeartbeats 1000000 in
theorem ncmp_other (w : World) (aa ab : Option Addr) (la ca lb cb K K' : Nat) (x y : Int) (hbb : decide (x < 0) ≠ decide (y < 0)) (hK : K < 1000000000) (hK' : K' < 1000000000) (na0 : NumIs w (.agg #[.slice aa la ca, .bool (decide (x < 0))]) x K) (nb0 : NumIs w (.agg #[.slice ab lb cb, .bool (decide (y < 0))]) y K') :
    Calls Tryz.prog 12 #[.agg #[.slice aa la ca, .bool (decide (x < 0))], .agg #[.slice ab lb cb, .bool (decide (y < 0))]] w fun e w' => e = .returned (.int .i64 (Lib.compareInt (signZ x) (signZ y))) ∧ Below w.heap.size w w' := by
  have hbe : (decide (x < 0) == decide (y < 0)) = false := by simpa using hbb
  generalize hb1 : decide (x < 0) = b at *
  generalize hb2 : decide (y < 0) = b' at *
  have HB := hid (And.intro hb1 hb2)
  clear hb1 hb2
  have hx := boxed2_first w (Obj.cells #[.slice aa la ca, .bool b] 27) (Obj.cells #[.slice ab lb cb, .bool b'] 27)
  have hz := boxed2_second w (Obj.cells #[.slice aa la ca, .bool b] 27) (Obj.cells #[.slice ab lb cb, .bool b'] 27)
  have hB := boxed2 (Below.refl w.heap.size w) (Obj.cells #[.slice aa la ca, .bool b] 27) (Obj.cells #[.slice ab lb cb, .bool b'] 27)
  go_enter Tryz.func12, Tryz.ntmps12
  go_wp2_with fail
  generalize (w.alloc (Obj.cells #[.slice aa la ca, .bool b] 27)).alloc (Obj.cells #[.slice ab lb cb, .bool b'] 27) = W at *
  have t1 := two_cell0 hx
  have t2 := two_cell1 hx
  have t3 := two_cell0 hz
  have t4 := two_cell1 hz
  have B0 : Below W.heap.size W W.drew := (Below.refl _ _).drew
  have na := na0.below hB
  have nb := nb0.below hB
  clear hx hz
  go_region_held3 (fun w' => w'.cell? ⟨w.heap.size, 0, none⟩ = some (.slice aa la ca) ∧ w'.cell? ⟨w.heap.size, 1, none⟩ = some (.bool b) ∧ w'.cell? ⟨w.heap.size + 1, 0, none⟩ = some (.slice ab lb cb) ∧ w'.cell? ⟨w.heap.size + 1, 1, none⟩ = some (.bool b')) ((first | exact ⟨t1, t2, t3, t4⟩ | exact K1 | exact K2)) (first
    | (have gk := B2; go_at_call 32; refine (Tryz.cmp_Compare_int _ _ _).mono ?_; rintro e w3 ⟨rfl, rfl⟩)
    | (have gk := B1; go_at_call 33; refine (nsign_any _ _ _ _ (by omega) (nb.below B1)).mono ?_; rintro e w2 ⟨rfl, hb2⟩; have B2 := chain2 B1 hb2; have K2 := keepN t1 t2 t3 t4 B2)
    | (have gk := B0; go_at_call 33; refine (nsign_any _ _ _ _ (by omega) (na.below B0)).mono ?_; rintro e w1 ⟨rfl, hb1⟩; have B1 := chain2 B0 hb1; have K1 := keepN t1 t2 t3 t4 B1))
  go_wp2
  go_ret
  exact ⟨rfl, chain2 hB B2⟩
set_option maxHeartbeats 800000 in
theorem ncmp_below (w : World) (aa ab : Option Addr) (la ca lb cb m n K K' : Nat) (na0 : NatIs w (.agg #[.slice aa la ca]) m K) (nb0 : NatIs w (.agg #[.slice ab lb cb]) n K') :
    Calls Tryz.prog 12 #[.agg #[.slice aa la ca, .bool true], .agg #[.slice ab lb cb, .bool true]] w fun e w' => e = .returned (.int .i64 (cmpI n m)) ∧ Below w.heap.size w w' := by
  have hB := boxed2 (Below.refl w.heap.size w) (Obj.cells #[.slice aa la ca, .bool true] 27) (Obj.cells #[.slice ab lb cb, .bool true] 27)
  go_enter Tryz.func12, Tryz.ntmps12
  go_wp2_with fail
  refine (cmp_any _ _ _ _ _ _ _ (nb0.below hB) (na0.below hB)).mono ?_
  rintro e w1 ⟨rfl, hb1⟩
  have kB := chain2 hB hb1
  go_wp2
  go_ret
  exact ⟨rfl, kB⟩
set_option maxHeartbeats 800000 in
theorem ncmp_above (w : World) (aa ab : Option Addr) (la ca lb cb m n K K' : Nat) (na0 : NatIs w (.agg #[.slice aa la ca]) m K) (nb0 : NatIs w (.agg #[.slice ab lb cb]) n K') :
    Calls Tryz.prog 12 #[.agg #[.slice aa la ca, .bool false], .agg #[.slice ab lb cb, .bool false]] w fun e w' => e = .returned (.int .i64 (cmpI m n)) ∧ Below w.heap.size w w' := by
  have hB := boxed2 (Below.refl w.heap.size w) (Obj.cells #[.slice aa la ca, .bool false] 27) (Obj.cells #[.slice ab lb cb, .bool false] 27)
  go_enter Tryz.func12, Tryz.ntmps12
  go_wp2_with fail
  refine (cmp_any _ _ _ _ _ _ _ (na0.below hB) (nb0.below hB)).mono ?_
  rintro e w1 ⟨rfl, hb1⟩
  have kB := chain2 hB hb1
  go_wp2
  go_ret
  exact ⟨rfl, kB⟩
theorem cmpZ_signs {x y : Int} (h : decide (x < 0) ≠ decide (y < 0)) : Lib.compareInt (signZ x) (signZ y) = cmpZ x y := by
  unfold Lib.compareInt signZ cmpZ
  by_cases hx : x < 0 <;> by_cases hy : y < 0 <;> simp [hx, hy] at h ⊢ <;> (repeat' split) <;> omega
theorem cmpZ_below {x y : Int} (hx : x < 0) (hy : y < 0) : cmpI y.natAbs x.natAbs = cmpZ x y := by
  unfold cmpI cmpZ; (repeat' split) <;> omega
theorem cmpZ_above {x y : Int} (hx : ¬ x < 0) (hy : ¬ y < 0) : cmpI x.natAbs y.natAbs = cmpZ x y := by
  unfold cmpI cmpZ; (repeat' split) <;> omega
/-- Cmp. -/
theorem ncmp_any (w : World) (a b : Value) (x y : Int) (K K' : Nat) (hK : K < 1000000000) (hK' : K' < 1000000000) (ha : NumIs w a x K) (hb : NumIs w b y K') :
    Calls Tryz.prog 12 #[a, b] w fun e w' => e = .returned (.int .i64 (cmpZ x y)) ∧ Below w.heap.size w w' := by
  obtain ⟨aa, la, ca, rfl, na⟩ := ha
  obtain ⟨ab, lb, cb, rfl, nb⟩ := hb
  by_cases h : decide (x < 0) = decide (y < 0)
  · by_cases hx : x < 0
    · have hy : y < 0 := by by_cases hy : y < 0 <;> simp [hx, hy] at h ⊢
      rw [show decide (x < 0) = true by simp [hx], show decide (y < 0) = true by simp [hy], ← cmpZ_below hx hy]
      exact ncmp_below w aa ab la ca lb cb _ _ K K' na nb
    · have hy : ¬ y < 0 := by intro hy; simp [hx, hy] at h
      rw [show decide (x < 0) = false by simp; omega, show decide (y < 0) = false by simp; omega, ← cmpZ_above hx hy]
      exact ncmp_above w aa ab la ca lb cb _ _ K K' na nb
  · rw [← cmpZ_signs h]
    exact ncmp_other w aa ab la ca lb cb K K' x y h hK hK' ⟨aa, la, ca, rfl, na⟩ ⟨ab, lb, cb, rfl, nb⟩
end Go.Proofs.YtjldlmonccgopaaGreatDoor
