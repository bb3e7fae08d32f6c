/- Whole numbers: Add. -/
import Derived.Test.YtchibjdhdbkdhaaDoorNOps
import Derived.Test.YtchibjdhdbkdhaaDoorEnds
namespace Go.Proofs.YtchibjdhdbkdhaaDoor
open Go.RowKit
set_option linter.unusedVariables false
set_option maxRecDepth 100000
set_option linter.unusedSimpArgs false
attribute [local go_sem ↓] Go.wp_at_zero Go.wp_at_succ

theorem sgn_add_same {x y : Int} (h : decide (x < 0) = decide (y < 0)) : sgn (decide (x < 0)) (x.natAbs + y.natAbs) = x + y := by
  unfold sgn; by_cases hx : x < 0 <;> by_cases hy : y < 0 <;> simp [hx, hy] at h ⊢ <;> omega
theorem sgn_add_more {x y : Int} (h : decide (x < 0) ≠ decide (y < 0)) (hl : y.natAbs ≤ x.natAbs) : sgn (decide (x < 0)) (x.natAbs - y.natAbs) = x + y := by
  unfold sgn; by_cases hx : x < 0 <;> by_cases hy : y < 0 <;> simp [hx, hy] at h ⊢ <;> omega
theorem sgn_add_less {x y : Int} (h : decide (x < 0) ≠ decide (y < 0)) (hl : x.natAbs ≤ y.natAbs) : sgn (decide (y < 0)) (y.natAbs - x.natAbs) = x + y := by
  unfold sgn; by_cases hx : x < 0 <;> by_cases hy : y < 0 <;> simp [hx, hy] at h ⊢ <;> omega
theorem keepN {W X : World} {p q : Nat} {a b c d : Value} (h1 : W.cell? ⟨p, 0, none⟩ = some a) (h2 : W.cell? ⟨p, 1, none⟩ = some b) (h3 : W.cell? ⟨q, 0, none⟩ = some c) (h4 : W.cell? ⟨q, 1, none⟩ = some d) (h : Below W.heap.size W X) :
    X.cell? ⟨p, 0, none⟩ = some a ∧ X.cell? ⟨p, 1, none⟩ = some b ∧ X.cell? ⟨q, 0, none⟩ = some c ∧ X.cell? ⟨q, 1, none⟩ = some d := ⟨kc h h1, kc h h2, kc h h3, kc h h4⟩
theorem keepN2 {X : World} {p q r : Nat} {a b c d : Value} (h : X.cell? ⟨p, 0, none⟩ = some a ∧ X.cell? ⟨p, 1, none⟩ = some b ∧ X.cell? ⟨q, 0, none⟩ = some c ∧ X.cell? ⟨q, 1, none⟩ = some d) (h1 : p ≠ r) (h2 : q ≠ r) (u v : Value) :
    ((X.setCell ⟨r, 0, none⟩ u).setCell ⟨r, 1, none⟩ v).cell? ⟨p, 0, none⟩ = some a ∧ ((X.setCell ⟨r, 0, none⟩ u).setCell ⟨r, 1, none⟩ v).cell? ⟨p, 1, none⟩ = some b ∧ ((X.setCell ⟨r, 0, none⟩ u).setCell ⟨r, 1, none⟩ v).cell? ⟨q, 0, none⟩ = some c ∧ ((X.setCell ⟨r, 0, none⟩ u).setCell ⟨r, 1, none⟩ v).cell? ⟨q, 1, none⟩ = some d :=
  ⟨two_keep0 h.1 h1 _ _, two_keep0 h.2.1 h1 _ _, two_keep0 h.2.2.1 h2 _ _, two_keep0 h.2.2.2 h2 _ _⟩
set_option maxHeartbeats 1000000 in
theorem nadd_same (w : World) (aa ab : Option Addr) (la ca lb cb m n K K' : Nat) (b : Bool) (hK : K < 1000000000) (hK' : K' < 1000000000) (na0 : NatIs w (.agg #[.slice aa la ca]) m K) (nb0 : NatIs w (.agg #[.slice ab lb cb]) n K') :
    Calls Tryd.prog 69 #[.agg #[.slice aa la ca, .bool b], .agg #[.slice ab lb cb, .bool b]] w fun e w' => ∃ v, e = .returned v ∧ NumIs w' v (sgn b (m + n)) (max K K' + 1) ∧ Below w.heap.size w w' := by
  have hx := boxed3_first w (Obj.cells #[.slice aa la ca, .bool b] 26) (Obj.cells #[.slice ab lb cb, .bool b] 26) (Obj.cells #[.slice none 0 0, .bool false] 26)
  have hz := boxed3_second w (Obj.cells #[.slice aa la ca, .bool b] 26) (Obj.cells #[.slice ab lb cb, .bool b] 26) (Obj.cells #[.slice none 0 0, .bool false] 26)
  have hy := boxed3_third w (Obj.cells #[.slice aa la ca, .bool b] 26) (Obj.cells #[.slice ab lb cb, .bool b] 26) (Obj.cells #[.slice none 0 0, .bool false] 26)
  have hB := boxed3 (Below.refl w.heap.size w) (Obj.cells #[.slice aa la ca, .bool b] 26) (Obj.cells #[.slice ab lb cb, .bool b] 26) (Obj.cells #[.slice none 0 0, .bool false] 26)
  go_enter Tryd.func69, Tryd.ntmps69
  go_wp2_with fail
  generalize ((w.alloc (Obj.cells #[.slice aa la ca, .bool b] 26)).alloc (Obj.cells #[.slice ab lb cb, .bool b] 26)).alloc (Obj.cells #[.slice none 0 0, .bool false] 26) = W at *
  have t1 := two_cell0 hx
  have t2 := two_cell1 hx
  have t3 := two_cell0 hz
  have t4 := two_cell1 hz
  have B0 : Below W.heap.size W W.drew := (Below.refl _ _).drew
  have na := na0.below hB
  have nb := nb0.below hB
  have HY := hid hy
  clear hx hy hz
  go_region_held3 (fun w' => w'.cell? ⟨w.heap.size, 0, none⟩ = some (.slice aa la ca) ∧ w'.cell? ⟨w.heap.size, 1, none⟩ = some (.bool b) ∧ w'.cell? ⟨w.heap.size + 1, 0, none⟩ = some (.slice ab lb cb) ∧ w'.cell? ⟨w.heap.size + 1, 1, none⟩ = some (.bool b)) ((first | exact ⟨t1, t2, t3, t4⟩ | exact K1 | exact K2 | exact keepN2 K2 (by omega) (by omega) _ _)) (first
    | (have gk := B1; go_at_call 32; refine (signed_any _ _ _ _ _ (by omega) n1).mono ?_; rintro e w2 ⟨v2, rfl, n2, hb2⟩; have B2 := chain2 B1 hb2; have K2 := keepN t1 t2 t3 t4 B2; obtain ⟨ar, lr, cr, rfl, n3⟩ := n2; have hy1 := box_below B2 HY.out (lt_of_block HY.out); have u2 := two_cell0 hy1; have u3 := two_cell1 hy1; have v2 := two_free (k := 0) hy1; have v3 := two_free (k := 1) hy1)
    | (have gk := B0; go_at_call 52; refine (add_any _ _ _ _ _ _ _ (by omega) (by omega) (na.below B0) (nb.below B0)).mono ?_; rintro e w1 ⟨v1, rfl, n1, hb1⟩; have B1 := chain2 B0 hb1; have K1 := keepN t1 t2 t3 t4 B1))
  obtain ⟨k0, k1, kB⟩ := end_two (chain2 hB B2) (show w.heap.size ≤ w.heap.size + 1 + 1 by omega) hy1 (.slice ar lr cr) (.bool (decide (sgn b (m + n) < 0)))
  have n4 := n3.box2 hy1 (by decide) (.slice ar lr cr) (.bool (decide (sgn b (m + n) < 0)))
  have HK := hid (And.intro k0 k1)
  clear k0 k1
  go_wp2
  exact bodyPost_ret (v := .agg #[.slice ar lr cr, .bool (decide (sgn b (m + n) < 0))]) (by simp [results, Tryd.results69, go_sem, HK.out.1, HK.out.2]) rfl ⟨_, rfl, ⟨ar, lr, cr, rfl, n4⟩, kB⟩
set_option maxHeartbeats 1000000 in
theorem nadd_other (w : World) (aa ab : Option Addr) (la ca lb cb m n K K' : Nat) (b b' : Bool) (r : Int) (hr1 : n ≤ m → sgn b (m - n) = r) (hr2 : ¬ n ≤ m → sgn b' (n - m) = r) (hbb : b ≠ b') (hK : K < 1000000000) (hK' : K' < 1000000000) (na0 : NatIs w (.agg #[.slice aa la ca]) m K) (nb0 : NatIs w (.agg #[.slice ab lb cb]) n K') :
    Calls Tryd.prog 69 #[.agg #[.slice aa la ca, .bool b], .agg #[.slice ab lb cb, .bool b']] w fun e w' => ∃ v, e = .returned v ∧ NumIs w' v r (max K K' + 1) ∧ Below w.heap.size w w' := by
  have hx := boxed3_first w (Obj.cells #[.slice aa la ca, .bool b] 26) (Obj.cells #[.slice ab lb cb, .bool b'] 26) (Obj.cells #[.slice none 0 0, .bool false] 26)
  have hz := boxed3_second w (Obj.cells #[.slice aa la ca, .bool b] 26) (Obj.cells #[.slice ab lb cb, .bool b'] 26) (Obj.cells #[.slice none 0 0, .bool false] 26)
  have hy := boxed3_third w (Obj.cells #[.slice aa la ca, .bool b] 26) (Obj.cells #[.slice ab lb cb, .bool b'] 26) (Obj.cells #[.slice none 0 0, .bool false] 26)
  have hB := boxed3 (Below.refl w.heap.size w) (Obj.cells #[.slice aa la ca, .bool b] 26) (Obj.cells #[.slice ab lb cb, .bool b'] 26) (Obj.cells #[.slice none 0 0, .bool false] 26)
  go_enter Tryd.func69, Tryd.ntmps69
  have hbe : (b == b') = false := by simpa using hbb
  have HR := hid (And.intro hr1 hr2)
  clear hr1 hr2
  go_wp2_with fail
  generalize ((w.alloc (Obj.cells #[.slice aa la ca, .bool b] 26)).alloc (Obj.cells #[.slice ab lb cb, .bool b'] 26)).alloc (Obj.cells #[.slice none 0 0, .bool false] 26) = W at *
  have na := na0.below hB
  have nb := nb0.below hB
  refine (sub_both W _ _ _ _ _ _ _ _ _ _ (by omega) (by omega) na nb).mono ?_
  rintro e w1 ⟨ar, lr, cr, rfl, n1, hb1⟩
  have hx3 := below_alloc' hb1 (Nat.le_refl _) (Obj.cells #[.slice ar lr cr] 24)
  have c1 := chain2 hB hx3
  have hx1 := box_below hx3 hx (lt_of_block hx)
  have hz1 := box_below hx3 hz (lt_of_block hz)
  have hy1 := box_below hx3 hy (lt_of_block hy)
  have hn1 := box_new w1 (Obj.cells #[.slice ar lr cr] 24)
  have na1 := na.below hx3
  have nb1 := nb.below hx3
  have n1 := n1.below ((Below.refl _ _).alloc (Nat.le_refl _) (Obj.cells #[.slice ar lr cr] 24))
  by_cases hmn : n ≤ m
  · have HS := hid (HR.out.1 hmn)
    rw [show subE m n = 0 by simp [subE]; omega]
    have t2 := two_cell1 hx1
    clear hx hz hy hx1 hz1 hmn hx3 hb1 na1 nb1
    go_wp2_with fail
    generalize w1.alloc (Obj.cells #[.slice ar lr cr] 24) = W1 at *
    refine (signed_any _ _ _ _ _ (by omega) n1).mono ?_
    rintro e w2 ⟨v2, rfl, n2, hb2⟩
    obtain ⟨aq, lq, cq, rfl, n3⟩ := n2
    have hy2 := box_below hb2 hy1 (lt_of_block hy1)
    have u2 := two_cell0 hy2
    have u3 := two_cell1 hy2
    have v2 := two_free (k := 0) hy2
    have v3 := two_free (k := 1) hy2
    obtain ⟨k0, k1, kB⟩ := end_two (chain2 c1 hb2) (show w.heap.size ≤ w.heap.size + 1 + 1 by omega) hy2 (.slice aq lq cq) (.bool (decide (sgn b (m - n) < 0)))
    have n4 := n3.box2 hy2 (by decide) (.slice aq lq cq) (.bool (decide (sgn b (m - n) < 0)))
    have HK := hid (And.intro k0 k1)
    clear k0 k1
    go_wp2
    refine bodyPost_ret (v := .agg #[.slice aq lq cq, .bool (decide (sgn b (m - n) < 0))]) (by simp [results, Tryd.results69, go_sem, HK.out.1, HK.out.2]) rfl ⟨_, rfl, ?_, kB⟩
    rw [← HS.out]
    exact ⟨aq, lq, cq, rfl, n4.mono (by omega)⟩
  · have HS := hid (HR.out.2 hmn)
    rw [show subE m n = 11 by simp [subE]; omega]
    have t1 := two_cell0 hx1
    have t3 := two_cell0 hz1
    clear hx hz hy hx3 hb1 hx1
    go_wp2_with fail
    clear t1 t3
    generalize w1.alloc (Obj.cells #[.slice ar lr cr] 24) = W1 at *
    refine (sub_both W1 _ _ _ _ _ _ _ _ _ _ (by omega) (by omega) nb1 na1).mono ?_
    rintro e w2 ⟨aS, ls, cs, rfl, n2, hb2⟩
    have hx4 := below_alloc' hb2 (Nat.le_refl _) (Obj.cells #[.slice aS ls cs] 24)
    have c2 := chain2 c1 hx4
    have hz2 := box_below hx4 hz1 (lt_of_block hz1)
    have hy2 := box_below hx4 hy1 (lt_of_block hy1)
    have n2 := n2.below ((Below.refl _ _).alloc (Nat.le_refl _) (Obj.cells #[.slice aS ls cs] 24))
    have t4 := two_cell1 hz2
    clear hz1 hy1 hz2 hx4 hb2 na1 nb1 hn1 n1
    go_wp2_with fail
    generalize w2.alloc (Obj.cells #[.slice aS ls cs] 24) = W2 at *
    refine (signed_any _ _ _ _ _ (by omega) n2).mono ?_
    rintro e w3 ⟨v3, rfl, n3, hb3⟩
    obtain ⟨aq, lq, cq, rfl, n5⟩ := n3
    have hy3 := box_below hb3 hy2 (lt_of_block hy2)
    have u2 := two_cell0 hy3
    have u3 := two_cell1 hy3
    have v2 := two_free (k := 0) hy3
    have v3 := two_free (k := 1) hy3
    obtain ⟨k0, k1, kB⟩ := end_two (chain2 c2 hb3) (show w.heap.size ≤ w.heap.size + 1 + 1 by omega) hy3 (.slice aq lq cq) (.bool (decide (sgn b' (n - m) < 0)))
    have n4 := n5.box2 hy3 (by decide) (.slice aq lq cq) (.bool (decide (sgn b' (n - m) < 0)))
    have HK := hid (And.intro k0 k1)
    clear k0 k1
    go_wp2
    refine bodyPost_ret (v := .agg #[.slice aq lq cq, .bool (decide (sgn b' (n - m) < 0))]) (by simp [results, Tryd.results69, go_sem, HK.out.1, HK.out.2]) rfl ⟨_, rfl, ?_, kB⟩
    rw [← HS.out]
    exact ⟨aq, lq, cq, rfl, n4.mono (by omega)⟩
/-- Add: the sum. -/
theorem nadd_any (w : World) (a b : Value) (x y : Int) (K K' : Nat) (hK : K < 1000000000) (hK' : K' < 1000000000) (ha : NumIs w a x K) (hb : NumIs w b y K') :
    Calls Tryd.prog 69 #[a, b] w fun e w' => ∃ v, e = .returned v ∧ NumIs w' v (x + y) (max K K' + 1) ∧ Below w.heap.size w w' := by
  obtain ⟨aa, la, ca, rfl, na⟩ := ha
  obtain ⟨ab, lb, cb, rfl, nb⟩ := hb
  by_cases h : decide (x < 0) = decide (y < 0)
  · have e := sgn_add_same h
    rw [← h, ← e]
    exact nadd_same w aa ab la ca lb cb _ _ K K' _ hK hK' na nb
  · exact nadd_other w aa ab la ca lb cb _ _ K K' _ _ _ (fun hl => sgn_add_more h hl) (fun hl => sgn_add_less h (by omega)) h hK hK' na nb
end Go.Proofs.YtchibjdhdbkdhaaDoor
