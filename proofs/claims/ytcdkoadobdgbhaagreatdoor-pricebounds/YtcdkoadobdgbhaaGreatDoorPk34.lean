/- NText, QBase, QText. -/
import Derived.Test.YtcdkoadobdgbhaaGreatDoorPk27
import Derived.Test.YtcdkoadobdgbhaaGreatDoorZText
import Derived.Test.YtcdkoadobdgbhaaGreatDoorPk7
/- Whole numbers: Abs, Text. -/
namespace Go.Proofs.YtcdkoadobdgbhaaGreatDoor
open Go.RowKit
set_option linter.unusedVariables false
set_option maxRecDepth 100000
set_option linter.unusedSimpArgs false
attribute [local go_sem ↓] Go.wp_at_zero Go.wp_at_succ

theorem nat_lt {w : World} {a : Value} {m K : Nat} (h : NatIs w a m K) : m < 4294967296 ^ K := by
  obtain ⟨sl, L, h1, h2, h3, h4, h5, h6⟩ := h
  rw [← h5]
  exact Nat.lt_of_lt_of_le (val_lt h3) (Nat.pow_le_pow_right (by omega) h6)
theorem text_size {t : ByteArray} {m K : Nat} (h : Txt t) (hn : num t = m) (hm : m < 4294967296 ^ K) : t.size ≤ 10 * K + 1 := by
  rcases Nat.lt_or_ge (10 * K + 1) t.size with e | e
  · have h1 := dv_ge (s := t) (t.size - 1) (by have := h.2.1 (by omega); have := h.2.2 0 (by omega); omega)
    rw [show t.size - 1 + 1 = t.size by omega] at h1
    have h2 : (10 : Nat) ^ (10 * K) ≤ 10 ^ (t.size - 1) := Nat.pow_le_pow_right (by omega) (by omega)
    have h3 : 4294967296 ^ K ≤ (10 ^ 10) ^ K := Nat.pow_le_pow_left (by omega) K
    rw [← Nat.pow_mul] at h3
    unfold num at hn
    omega
  · exact e
set_option maxHeartbeats 800000 in
theorem ntext_below (w : World) (ao : Option Addr) (l c m K : Nat) (hK : K ≤ 1000000000) (na0 : NatIs w (.agg #[.slice ao l c]) m K) (htab : Tab w) :
    Calls Tryz.prog 129 #[.agg #[.slice ao l c, .bool true]] w fun e w' => (∃ t, e = .returned (.string (minus t)) ∧ Txt t ∧ num t = m) ∧ Below w.heap.size w w' := by
  have hB : Below w.heap.size w (w.alloc (Obj.cells #[.slice ao l c, .bool true] 71)) := (Below.refl _ _).alloc (Nat.le_refl _) _
  go_enter Tryz.func129, Tryz.ntmps129
  go_wp2_with fail
  refine (text_any _ _ _ K hK (na0.below hB) (htab.below hB)).mono ?_
  rintro e w1 ⟨⟨t, rfl, h1, h2⟩, hb1⟩
  have kB := chain2 hB hb1
  have hsz := text_size h1 h2 (nat_lt na0)
  have H := hid (And.intro h1 h2)
  clear h1 h2
  go_wp2
  exact bodyPost_ret (v := .string (minus t)) (by simp [results, Tryz.results129, go_sem, minus]) rfl ⟨⟨t, rfl, H.out⟩, kB⟩
set_option maxHeartbeats 800000 in
theorem ntext_above (w : World) (ao : Option Addr) (l c m K : Nat) (hK : K ≤ 1000000000) (na0 : NatIs w (.agg #[.slice ao l c]) m K) (htab : Tab w) :
    Calls Tryz.prog 129 #[.agg #[.slice ao l c, .bool false]] w fun e w' => (∃ t, e = .returned (.string t) ∧ Txt t ∧ num t = m) ∧ Below w.heap.size w w' := by
  have hB : Below w.heap.size w (w.alloc (Obj.cells #[.slice ao l c, .bool false] 71)) := (Below.refl _ _).alloc (Nat.le_refl _) _
  go_enter Tryz.func129, Tryz.ntmps129
  go_wp2_with fail
  refine (text_any _ _ _ K hK (na0.below hB) (htab.below hB)).mono ?_
  rintro e w1 ⟨⟨t, rfl, h1, h2⟩, hb1⟩
  have kB := chain2 hB hb1
  have H := hid (And.intro h1 h2)
  clear h1 h2
  go_wp2
  go_ret
  exact ⟨⟨t, rfl, H.out⟩, kB⟩
/-- Text: the number's text. -/
theorem ntext_any (w : World) (a : Value) (z : Int) (K : Nat) (hK : K ≤ 1000000000) (ha : NumIs w a z K) (htab : Tab w) :
    Calls Tryz.prog 129 #[a] w fun e w' => (∃ s, e = .returned (.string s) ∧ ZTx s z) ∧ Below w.heap.size w w' := by
  obtain ⟨ao, l, c, rfl, na⟩ := ha
  by_cases h : z < 0
  · rw [show decide (z < 0) = true by simp [h]]
    refine (ntext_below w ao l c _ K hK na htab).mono ?_
    rintro e w' ⟨⟨t, rfl, h1, h2⟩, hb⟩
    exact ⟨⟨_, rfl, Or.inr ⟨h, t, rfl, h1, h2⟩⟩, hb⟩
  · rw [show decide (z < 0) = false by simp; omega]
    refine (ntext_above w ao l c _ K hK na htab).mono ?_
    rintro e w' ⟨⟨t, rfl, h1, h2⟩, hb⟩
    exact ⟨⟨_, rfl, Or.inl ⟨by omega, h1, h2⟩⟩, hb⟩
end Go.Proofs.YtcdkoadobdgbhaaGreatDoor
/- Fractions in memory: the program's. -/
namespace Go.Proofs.YtcdkoadobdgbhaaGreatDoor
open Go.RowKit
set_option linter.unusedVariables false
set_option maxRecDepth 100000
set_option linter.unusedSimpArgs false
attribute [local go_sem ↓] Go.wp_at_zero Go.wp_at_succ

/-- v is the fraction n / d in memory: its numerator, and its denominator less 1. -/
def RatIs (w : World) (v : Value) (n d : Int) (K : Nat) : Prop := ∃ a1 l1 c1 a2 l2 c2, v = .agg #[.slice a1 l1 c1, .bool (decide (n < 0)), .slice a2 l2 c2, .bool (decide (d - 1 < 0))] ∧ NumIs w (.agg #[.slice a1 l1 c1, .bool (decide (n < 0))]) n K ∧ NumIs w (.agg #[.slice a2 l2 c2, .bool (decide (d - 1 < 0))]) (d - 1) K
theorem RatIs.below {w w' : World} {v : Value} {n d : Int} {K : Nat} (h : RatIs w v n d K) (hb : Below w.heap.size w w') : RatIs w' v n d K := by
  obtain ⟨a1, l1, c1, a2, l2, c2, h1, h2, h3⟩ := h
  exact ⟨a1, l1, c1, a2, l2, c2, h1, h2.below hb, h3.below hb⟩
theorem RatIs.mono {w : World} {v : Value} {n d : Int} {K K' : Nat} (h : RatIs w v n d K) (hk : K ≤ K') : RatIs w v n d K' := by
  obtain ⟨a1, l1, c1, a2, l2, c2, h1, h2, h3⟩ := h
  exact ⟨a1, l1, c1, a2, l2, c2, h1, h2.mono hk, h3.mono hk⟩
theorem four_cell {w : World} {b : Nat} {x0 x1 x2 x3 : Value} {t : TypeId} {fz : Nat × Nat} (h : w.heap[b]? = some (.cells #[x0, x1, x2, x3] t fz)) : w.cell? ⟨b, 0, none⟩ = some x0 ∧ w.cell? ⟨b, 1, none⟩ = some x1 ∧ w.cell? ⟨b, 2, none⟩ = some x2 ∧ w.cell? ⟨b, 3, none⟩ = some x3 := by
  refine ⟨?_, ?_, ?_, ?_⟩ <;> simp [World.cell?, h]
theorem keep2 {W X : World} {p q : Addr} {a b : Value} (h1 : W.cell? p = some a) (h2 : W.cell? q = some b) (h : Below W.heap.size W X) : X.cell? p = some a ∧ X.cell? q = some b := ⟨kc h h1, kc h h2⟩
theorem num_form {w : World} {v : Value} {z : Int} {K : Nat} (h : NumIs w v z K) : ∃ ao l c d, v = .agg #[.slice ao l c, .bool d] := by
  obtain ⟨ao, l, c, h1, _⟩ := h
  exact ⟨ao, l, c, _, h1⟩
set_option maxHeartbeats 2000000 in
theorem qden_walk (w : World) (a1 a2 : Option Addr) (l1 c1 l2 c2 : Nat) (b1 b2 : Bool) (m : Int) (K : Nat) (hK : K ≤ 400000000) (na : NumIs w (.agg #[.slice a2 l2 c2, .bool b2]) m K) :
    Calls Tryz.prog 130 #[.agg #[.slice a1 l1 c1, .bool b1, .slice a2 l2 c2, .bool b2]] w fun e w' => ∃ v, e = .returned v ∧ NumIs w' v (m + 1) (K + 3) ∧ Below w.heap.size w w' := by
  have hx := boxed2_first w (Obj.cells #[.slice a1 l1 c1, .bool b1, .slice a2 l2 c2, .bool b2] 73) (Obj.cells #[.slice none 0 0, .bool false] 71)
  have hy := boxed2_second w (Obj.cells #[.slice a1 l1 c1, .bool b1, .slice a2 l2 c2, .bool b2] 73) (Obj.cells #[.slice none 0 0, .bool false] 71)
  have hB := boxed2 (Below.refl w.heap.size w) (Obj.cells #[.slice a1 l1 c1, .bool b1, .slice a2 l2 c2, .bool b2] 73) (Obj.cells #[.slice none 0 0, .bool false] 71)
  have Na := na.below hB
  go_enter Tryz.func130, Tryz.ntmps130
  go_wp2
  generalize (w.alloc (Obj.cells #[.slice a1 l1 c1, .bool b1, .slice a2 l2 c2, .bool b2] 73)).alloc (Obj.cells #[.slice none 0 0, .bool false] 71) = W at *
  obtain ⟨_, _, x2, x3⟩ := four_cell hx
  have B0 : Below W.heap.size W W.drew := (Below.refl _ _).drew
  have ne : w.heap.size ≠ w.heap.size + 1 := by omega
  go_region_held3 (fun w' => w'.cell? ⟨w.heap.size, 2, none⟩ = some (.slice a2 l2 c2) ∧ w'.cell? ⟨w.heap.size, 3, none⟩ = some (.bool b2)) (first | exact ⟨x2, x3⟩ | exact K1 | exact K2 | exact K3) (first
    | (have gk := B1; go_at_call 126; refine (nadd_any _ _ _ m 1 K 2 (by omega) (by omega) (Na.below B1) n1).mono ?_; rintro e w2 ⟨v2, rfl, n2, hb2⟩; have B2 := chain2 B1 hb2; obtain ⟨ao, lo, co, dd, rfl⟩ := num_form n2; have K2 := keep2 x2 x3 B2; have y1 := box_below B2 hy (lt_of_block hy); have u0 := two_cell0 y1; have u1 := two_cell1 y1; have f0 := two_free (k := 0) y1; have f1 := two_free (k := 1) y1; have K3 := And.intro (two_keep0 K2.1 ne (.slice ao lo co) (.bool dd)) (two_keep0 K2.2 ne (.slice ao lo co) (.bool dd)))
    | (go_at_call 127; refine (nof_any _ 1 (by omega) (by omega)).mono ?_; rintro e w1 ⟨v1, rfl, n1, hb1⟩; have B1 := chain2 B0 hb1; have K1 := keep2 x2 x3 B1))
  all_goals
    obtain ⟨o1, o2, o3⟩ := end_two (chain2 hB B2) (show w.heap.size ≤ w.heap.size + 1 by omega) y1 (.slice ao lo co) (.bool dd)
    have n3 := n2.box2 y1 (by decide) (.slice ao lo co) (.bool dd)
    have HO := hid (And.intro o1 (And.intro o2 o3))
    clear o1 o2 o3 y1 u0 u1 f0 f1 K1 K2 K3 n2 n1 B1 B2 hb1 hb2
    generalize (w2.setCell ⟨w.heap.size + 1, 0, none⟩ (.slice ao lo co)).setCell ⟨w.heap.size + 1, 1, none⟩ (.bool dd) = X at *
    go_wp2
    exact bodyPost_ret (v := .agg #[.slice ao lo co, .bool dd]) (by simp [results, Tryz.results130, go_sem, HO.out.1, HO.out.2.1]) rfl ⟨_, rfl, n3.mono (by omega), HO.out.2.2⟩
/-- Den: the denominator. -/
theorem qden_any (w : World) (v : Value) (n d : Int) (K : Nat) (hK : K ≤ 400000000) (h : RatIs w v n d K) :
    Calls Tryz.prog 130 #[v] w fun e w' => ∃ v, e = .returned v ∧ NumIs w' v d (K + 3) ∧ Below w.heap.size w w' := by
  obtain ⟨a1, l1, c1, a2, l2, c2, rfl, h2, h3⟩ := h
  refine (qden_walk w a1 a2 l1 c1 l2 c2 _ _ (d - 1) K hK h3).mono ?_
  rintro e w' ⟨v, rfl, hv, hw⟩
  rw [show d - 1 + 1 = d by omega] at hv
  exact ⟨v, rfl, hv, hw⟩
end Go.Proofs.YtcdkoadobdgbhaaGreatDoor
/- Fractions: Text. -/
namespace Go.Proofs.YtcdkoadobdgbhaaGreatDoor
open Go.RowKit
set_option linter.unusedVariables false
set_option maxRecDepth 100000
set_option linter.unusedSimpArgs false
attribute [local go_sem ↓] Go.wp_at_zero Go.wp_at_succ

def slash (a b : ByteArray) : ByteArray := a ++ ⟨#[47]⟩ ++ b
/-- s is the text of n / d. -/
def QTx (s : ByteArray) (n d : Int) : Prop := (d = 1 ∧ ZTx s n) ∨ (d ≠ 1 ∧ ∃ a b, ZTx a n ∧ ZTx b d ∧ s = slash a b)
theorem QTx.inj {s t : ByteArray} {n d : Int} (h : QTx s n d) (k : QTx t n d) : s = t := by
  rcases h with ⟨h1, h2⟩ | ⟨h1, a, b, h2, h3, rfl⟩ <;> rcases k with ⟨k1, k2⟩ | ⟨k1, c, e, k2, k3, rfl⟩
  · exact h2.inj k2
  · exact absurd h1 k1
  · exact absurd k1 h1
  · rw [h2.inj k2, h3.inj k3]
theorem numis_lt {w : World} {v : Value} {z : Int} {K : Nat} (h : NumIs w v z K) : z.natAbs < 4294967296 ^ K := by
  obtain ⟨_, _, _, _, h2⟩ := h
  exact nat_lt h2
theorem ztx_size {s : ByteArray} {z : Int} {K : Nat} (h : ZTx s z) (hz : z.natAbs < 4294967296 ^ K) : s.size ≤ 10 * K + 2 := by
  rcases h with ⟨_, h1, h2⟩ | ⟨_, t, rfl, h1, h2⟩
  · have := text_size h1 h2 hz; omega
  · have := text_size h1 h2 hz
    have e : (minus t).size = 1 + t.size := by simp [minus, ByteArray.size_append]; rfl
    omega
theorem keep4' {W X : World} {p q r t : Addr} {a b c d : Value} (h1 : W.cell? p = some a) (h2 : W.cell? q = some b) (h3 : W.cell? r = some c) (h4 : W.cell? t = some d) (h : Below W.heap.size W X) : X.cell? p = some a ∧ X.cell? q = some b ∧ X.cell? r = some c ∧ X.cell? t = some d := ⟨kc h h1, kc h h2, kc h h3, kc h h4⟩
theorem add_one (a : ByteArray) (h : a.size ≤ 1000000000) : ∀ w, (Op.stringOp .add a ⟨#[47]⟩).run Tryz.prog w = .ok (.string (a ++ ⟨#[47]⟩)) w := by
  intro w
  have e : (⟨#[47]⟩ : ByteArray).size = 1 := rfl
  exact run_string_add_sum w _ _ (by omega)
theorem add_two (a b : ByteArray) (h : a.size + b.size ≤ 1000000000) : ∀ w, (Op.stringOp .add (a ++ ⟨#[47]⟩) b).run Tryz.prog w = .ok (.string (a ++ ⟨#[47]⟩ ++ b)) w := by
  intro w
  have e : (a ++ ⟨#[47]⟩ : ByteArray).size = a.size + 1 := by rw [ByteArray.size_append]; rfl
  exact run_string_add_sum w _ _ (by omega)
set_option maxHeartbeats 2000000 in
theorem qtext_any (w : World) (v : Value) (n d : Int) (K : Nat) (hK : K ≤ 1000000) (h : RatIs w v n d K) (htab : Tab w) :
    Calls Tryz.prog 85 #[v] w fun e w' => (∃ s, e = .returned (.string s) ∧ QTx s n d) ∧ Below w.heap.size w w' := by
  have h0 := h
  obtain ⟨a1, l1, c1, a2, l2, c2, rfl, h2, h3⟩ := h
  generalize decide (n < 0) = b1 at *
  generalize decide (d - 1 < 0) = b2 at *
  have hx := box_new w (Obj.cells #[.slice a1 l1 c1, .bool b1, .slice a2 l2 c2, .bool b2] 73)
  have hB : Below w.heap.size w (w.alloc (Obj.cells #[.slice a1 l1 c1, .bool b1, .slice a2 l2 c2, .bool b2] 73)) := (Below.refl _ _).alloc (Nat.le_refl _) _
  have N1 := h2.below hB
  have N2 := h3.below hB
  have R0 := h0.below hB
  have T0 := htab.below hB
  obtain ⟨x0, x1, x2, x3⟩ := four_cell hx
  clear h2 h3 h0
  go_enter Tryz.func85, Tryz.ntmps85
  go_wp2_with fail
  generalize w.alloc (Obj.cells #[.slice a1 l1 c1, .bool b1, .slice a2 l2 c2, .bool b2] 73) = W at *
  refine (nsign_any _ _ _ _ (by omega) N2).mono ?_
  rintro e w1 ⟨rfl, hb1⟩
  have C1 := chain2 hB hb1
  have y0 := kc hb1 x0
  have y1 := kc hb1 x1
  have y2 := kc hb1 x2
  have y3 := kc hb1 x3
  have N1 := N1.below hb1
  have R1 := R0.below hb1
  have T1 := T0.below hb1
  clear x0 x1 x2 x3 N2 R0 T0
  by_cases hd : d = 1
  · rw [show signZ (d - 1) = 0 by rw [hd]; rfl]
    go_wp2_with fail
    refine (ntext_any _ _ _ _ (by omega) N1 T1).mono ?_
    rintro e w2 ⟨⟨s, rfl, hs⟩, hb2⟩
    have C2 := chain2 C1 hb2
    go_wp2
    go_ret
    exact ⟨⟨s, rfl, Or.inl ⟨hd, hs⟩⟩, C2⟩
  · have hs0 : (signZ (d - 1) == 0) = false := beq_eq_false_iff_ne.2 (by unfold signZ; (repeat' split) <;> omega)
    generalize signZ (d - 1) = sg0 at *
    have HD := hid hd
    clear hd
    go_wp2
    have B0 : Below w1.heap.size w1 w1.drew := (Below.refl _ _).drew
    have LN := numis_lt N1
    go_region_held3 (fun w' => w'.cell? ⟨w.heap.size, 0, none⟩ = some (.slice a1 l1 c1) ∧ w'.cell? ⟨w.heap.size, 1, none⟩ = some (.bool b1) ∧ w'.cell? ⟨w.heap.size, 2, none⟩ = some (.slice a2 l2 c2) ∧ w'.cell? ⟨w.heap.size, 3, none⟩ = some (.bool b2)) ((refine keep4' y0 y1 y2 y3 ?_; first | exact B0 | exact B1 | exact B2 | exact B3)) (first
      | (have gk := B2; go_at_call 129; refine (ntext_any _ _ d (K + 3) (by omega) nd (T1.below B2)).mono ?_; rintro e w4 ⟨⟨s2, rfl, hs2⟩, hb4⟩; have B3 := chain2 B2 hb4; have z2 := ztx_size hs2 (numis_lt nd); have g2 := add_two s1 s2 (by omega))
      | (have gk := B1; go_at_call 130; refine (qden_any _ _ n d K (by omega) (R1.below B1)).mono ?_; rintro e w3 ⟨vd, rfl, nd, hb3⟩; have B2 := chain2 B1 hb3)
      | (go_at_call 129; refine (ntext_any _ _ n K (by omega) (N1.below B0) (T1.below B0)).mono ?_; rintro e w2 ⟨⟨s1, rfl, hs1⟩, hb2⟩; have B1 := chain2 B0 hb2; have z1 := ztx_size hs1 LN; have g1 := add_one s1 (by omega)))
    all_goals
      have C3 := chain2 C1 B3
      have HS := hid (show QTx (slash s1 s2) n d from Or.inr ⟨HD.out, s1, s2, hs1, hs2, rfl⟩)
      clear hs1 hs2
      go_wp2
      exact bodyPost_ret (v := .string (slash s1 s2)) (by simp [results, Tryz.results85, go_sem, slash]) rfl ⟨⟨_, rfl, HS.out⟩, C3⟩
end Go.Proofs.YtcdkoadobdgbhaaGreatDoor
