/- The document's whole numbers: Sub, Cmp, Text. -/
import Derived.Test.YtcdkoadobdgbhaaGreatDoorPk27
import Derived.Test.YtcdkoadobdgbhaaGreatDoorZRText
import Derived.Test.YtcdkoadobdgbhaaGreatDoorPk34
namespace Go.Proofs.YtcdkoadobdgbhaaGreatDoor
open Go.RowKit
set_option linter.unusedVariables false
set_option maxRecDepth 100000
set_option linter.unusedSimpArgs false
attribute [local go_sem ↓] Go.wp_at_zero Go.wp_at_succ

theorem ref_lt {w : World} {a : Value} {m K : Nat} (h : RefIs w a m K) : m < 4294967296 ^ K := by
  obtain ⟨sl, L, h1, h2, h3, h4, h5, h6⟩ := h
  rw [← h5]
  exact Nat.lt_of_lt_of_le (R.val_lt h3) (Nat.le_trans (Nat.pow_le_pow_right (by omega) h6) (Nat.pow_le_pow_left (by omega) K))
set_option maxHeartbeats 2000000 in
/-- The document's Sub. -/
theorem ssub_any (w : World) (a b : Value) (x y : Int) (K K' : Nat) (hK : K < 1000000000) (hK' : K' < 1000000000) (ha : RNumIs w a x K) (hb : RNumIs w b y K') :
    Calls Tryz.prog 138 #[a, b] w fun e w' => ∃ v, e = .returned v ∧ RNumIs w' v (x - y) (max K K' + 1) ∧ Below w.heap.size w w' := by
  obtain ⟨aa, la, ca, rfl, na0⟩ := ha
  obtain ⟨ab, lb, cb, rfl, nb0⟩ := hb
  have Na0 : RNumIs w (.agg #[.bool (decide (x < 0)), .slice aa la ca]) x K := ⟨aa, la, ca, rfl, na0⟩
  have Nb0 : RNumIs w (.agg #[.bool (decide (y < 0)), .slice ab lb cb]) y K' := ⟨ab, lb, cb, rfl, nb0⟩
  rw [Int.sub_eq_add_neg]
  generalize decide (x < 0) = b at *
  generalize decide (y < 0) = b' at *
  have hx := boxed3_first w (Obj.cells #[.bool b, .slice aa la ca] 33) (Obj.cells #[.bool b', .slice ab lb cb] 33) (Obj.cells #[.bool false, .slice none 0 0] 33)
  have hz := boxed3_second w (Obj.cells #[.bool b, .slice aa la ca] 33) (Obj.cells #[.bool b', .slice ab lb cb] 33) (Obj.cells #[.bool false, .slice none 0 0] 33)
  have hy := boxed3_third w (Obj.cells #[.bool b, .slice aa la ca] 33) (Obj.cells #[.bool b', .slice ab lb cb] 33) (Obj.cells #[.bool false, .slice none 0 0] 33)
  have hB := boxed3 (Below.refl w.heap.size w) (Obj.cells #[.bool b, .slice aa la ca] 33) (Obj.cells #[.bool b', .slice ab lb cb] 33) (Obj.cells #[.bool false, .slice none 0 0] 33)
  go_enter Tryz.func138, Tryz.ntmps138
  go_wp2_with fail
  generalize ((w.alloc (Obj.cells #[.bool b, .slice aa la ca] 33)).alloc (Obj.cells #[.bool b', .slice ab lb cb] 33)).alloc (Obj.cells #[.bool false, .slice none 0 0] 33) = W at *
  have t1 := two_cell0 hx
  have t2 := two_cell1 hx
  have t3 := two_cell0 hz
  have t4 := two_cell1 hz
  have Na := Na0.below hB
  have Nb := Nb0.below hB
  have HY := hid hy
  clear hx hy hz
  first
    | (refine (sneg_any W _ _ _ (by omega) Nb).mono ?_
       rintro e w1 ⟨v1, rfl, n1, B1⟩
       obtain ⟨s1, s2, s3, s4⟩ := keepN t1 t2 t3 t4 B1
       go_wp2_with fail
       refine (sadd_any w1 _ _ _ _ _ _ (by omega) (by omega) (Na.below B1) n1).mono ?_
       rintro e w2 ⟨v2, rfl, n2, hb2⟩
       have B2 := chain2 B1 hb2
       obtain ⟨ar, lr, cr, rfl, n3⟩ := n2
       have hy1 := box_below B2 HY.out (lt_of_block HY.out)
       have u2 := two_cell0 hy1
       have u3 := two_cell1 hy1
       have v2 := two_free (k := 0) hy1
       have v3 := two_free (k := 1) hy1)
    | (have B0 : Below W.heap.size W W.drew := (Below.refl _ _).drew
       go_region_held3 (fun w' => w'.cell? ⟨w.heap.size, 0, none⟩ = some (.bool b) ∧ w'.cell? ⟨w.heap.size, 1, none⟩ = some (.slice aa la ca) ∧ w'.cell? ⟨w.heap.size + 1, 0, none⟩ = some (.bool b') ∧ w'.cell? ⟨w.heap.size + 1, 1, none⟩ = some (.slice ab lb cb)) ((first | exact ⟨t1, t2, t3, t4⟩ | exact K1 | exact K2 | exact keepN2 K2 (by omega) (by omega) _ _)) (first
         | (have gk := B1; go_at_call 135; refine (sadd_any _ _ _ _ _ _ _ (by omega) (by omega) (Na.below B1) n1).mono ?_; rintro e w2 ⟨v2, rfl, n2, hb2⟩; have B2 := chain2 B1 hb2; have K2 := keepN t1 t2 t3 t4 B2; obtain ⟨ar, lr, cr, rfl, n3⟩ := n2; have hy1 := box_below B2 HY.out (lt_of_block HY.out); have u2 := two_cell0 hy1; have u3 := two_cell1 hy1; have v2 := two_free (k := 0) hy1; have v3 := two_free (k := 1) hy1)
         | (have gk := B0; go_at_call 112; refine (sneg_any _ _ _ _ (by omega) (Nb.below B0)).mono ?_; rintro e w1 ⟨v1, rfl, n1, hb1⟩; have B1 := chain2 B0 hb1; have K1 := keepN t1 t2 t3 t4 B1)))
  obtain ⟨k0, k1, kB⟩ := end_two (chain2 hB B2) (show w.heap.size ≤ w.heap.size + 1 + 1 by omega) hy1 (.bool (decide (x + -y < 0))) (.slice ar lr cr)
  have n4 := n3.box2 hy1 (by decide) (.bool (decide (x + -y < 0))) (.slice ar lr cr)
  have HK := hid (And.intro k0 k1)
  clear k0 k1
  go_wp2
  exact bodyPost_ret (v := .agg #[.bool (decide (x + -y < 0)), .slice ar lr cr]) (by simp [results, Tryz.results138, go_sem, HK.out.1, HK.out.2]) rfl ⟨_, rfl, ⟨ar, lr, cr, rfl, n4⟩, kB⟩
theorem signZ_sub (x y : Int) : signZ (x - y) = cmpZ x y := by unfold signZ cmpZ; (repeat' split) <;> omega
set_option maxHeartbeats 800000 in
/-- The document's Cmp. -/
theorem scmp_any (w : World) (a b : Value) (x y : Int) (K K' : Nat) (hK : K < 900000000) (hK' : K' < 900000000) (ha : RNumIs w a x K) (hb : RNumIs w b y K') :
    Calls Tryz.prog 101 #[a, b] w fun e w' => e = .returned (.int .i64 (cmpZ x y)) ∧ Below w.heap.size w w' := by
  obtain ⟨aa, la, ca, rfl, na0⟩ := ha
  obtain ⟨ab, lb, cb, rfl, nb0⟩ := hb
  have Na0 : RNumIs w (.agg #[.bool (decide (x < 0)), .slice aa la ca]) x K := ⟨aa, la, ca, rfl, na0⟩
  have Nb0 : RNumIs w (.agg #[.bool (decide (y < 0)), .slice ab lb cb]) y K' := ⟨ab, lb, cb, rfl, nb0⟩
  rw [← signZ_sub]
  generalize decide (x < 0) = b at *
  generalize decide (y < 0) = b' at *
  have hB := boxed2 (Below.refl w.heap.size w) (Obj.cells #[.bool b, .slice aa la ca] 33) (Obj.cells #[.bool b', .slice ab lb cb] 33)
  go_enter Tryz.func101, Tryz.ntmps101
  go_wp2_with fail
  generalize (w.alloc (Obj.cells #[.bool b, .slice aa la ca] 33)).alloc (Obj.cells #[.bool b', .slice ab lb cb] 33) = W at *
  refine (ssub_any W _ _ _ _ _ _ (by omega) (by omega) (Na0.below hB) (Nb0.below hB)).mono ?_
  rintro e w1 ⟨v1, rfl, n1, hb1⟩
  go_wp2_with fail
  refine (ssign_any _ _ _ _ (by omega) n1).mono ?_
  rintro e w2 ⟨rfl, hb2⟩
  have kB := chain2 (chain2 hB hb1) hb2
  go_wp2
  go_ret
  exact ⟨rfl, kB⟩
set_option maxHeartbeats 800000 in
theorem stext_below (w : World) (ao : Option Addr) (l c m K : Nat) (hK : K ≤ 1000000000) (na0 : RefIs w (.agg #[.slice ao l c]) m K)  :
    Calls Tryz.prog 25 #[.agg #[.bool true, .slice ao l c]] w fun e w' => (∃ t, e = .returned (.string (minus t)) ∧ Txt t ∧ num t = m) ∧ Below w.heap.size w w' := by
  have hB : Below w.heap.size w (w.alloc (Obj.cells #[.bool true, .slice ao l c] 33)) := (Below.refl _ _).alloc (Nat.le_refl _) _
  go_enter Tryz.func25, Tryz.ntmps25
  go_wp2_with fail
  refine (rtext_any _ _ _ K hK (na0.below hB)).mono ?_
  rintro e w1 ⟨⟨t, rfl, h1, h2⟩, hb1⟩
  have kB := chain2 hB hb1
  have hsz := text_size h1 h2 (ref_lt na0)
  have H := hid (And.intro h1 h2)
  clear h1 h2
  go_wp2
  exact bodyPost_ret (v := .string (minus t)) (by simp [results, Tryz.results25, go_sem, minus]) rfl ⟨⟨t, rfl, H.out⟩, kB⟩
set_option maxHeartbeats 800000 in
theorem stext_above (w : World) (ao : Option Addr) (l c m K : Nat) (hK : K ≤ 1000000000) (na0 : RefIs w (.agg #[.slice ao l c]) m K)  :
    Calls Tryz.prog 25 #[.agg #[.bool false, .slice ao l c]] w fun e w' => (∃ t, e = .returned (.string t) ∧ Txt t ∧ num t = m) ∧ Below w.heap.size w w' := by
  have hB : Below w.heap.size w (w.alloc (Obj.cells #[.bool false, .slice ao l c] 33)) := (Below.refl _ _).alloc (Nat.le_refl _) _
  go_enter Tryz.func25, Tryz.ntmps25
  go_wp2_with fail
  refine (rtext_any _ _ _ K hK (na0.below hB)).mono ?_
  rintro e w1 ⟨⟨t, rfl, h1, h2⟩, hb1⟩
  have kB := chain2 hB hb1
  have H := hid (And.intro h1 h2)
  clear h1 h2
  go_wp2
  go_ret
  exact ⟨⟨t, rfl, H.out⟩, kB⟩
/-- Text: the number's text. -/
theorem stext_any (w : World) (a : Value) (z : Int) (K : Nat) (hK : K ≤ 1000000000) (ha : RNumIs w a z K)  :
    Calls Tryz.prog 25 #[a] w fun e w' => (∃ s, e = .returned (.string s) ∧ ZTx s z) ∧ Below w.heap.size w w' := by
  obtain ⟨ao, l, c, rfl, na⟩ := ha
  by_cases h : z < 0
  · rw [show decide (z < 0) = true by simp [h]]
    refine (stext_below w ao l c _ K hK na).mono ?_
    rintro e w' ⟨⟨t, rfl, h1, h2⟩, hb⟩
    exact ⟨⟨_, rfl, Or.inr ⟨h, t, rfl, h1, h2⟩⟩, hb⟩
  · rw [show decide (z < 0) = false by simp; omega]
    refine (stext_above w ao l c _ K hK na).mono ?_
    rintro e w' ⟨⟨t, rfl, h1, h2⟩, hb⟩
    exact ⟨⟨_, rfl, Or.inl ⟨by omega, h1, h2⟩⟩, hb⟩
end Go.Proofs.YtcdkoadobdgbhaaGreatDoor
