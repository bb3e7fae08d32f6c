/- NOps, NParse, NNumber, NAbs, NAdd, NMul, SAdd, NMake, NCmp. -/
import Derived.Test.YtgojlegknlalpaaGreatDoorPk5
import Derived.Test.YtgojlegknlalpaaGreatDoorPk8
import Derived.Test.YtgojlegknlalpaaGreatDoorPk16
/- Whole numbers: what signed, copied, Neg, Abs, Sign answer. -/
namespace Go.Proofs.YtgojlegknlalpaaGreatDoor
open Go.RowKit
set_option linter.unusedVariables false
set_option maxRecDepth 100000
set_option linter.unusedSimpArgs false
attribute [local go_sem ↓] Go.wp_at_zero Go.wp_at_succ

theorem bin_pos {m b : Nat} (h : Bin m b) : (0 < b ↔ 0 < m) := by
  obtain ⟨h1, h2, h3⟩ := h
  constructor
  · intro hb
    rcases Nat.eq_zero_or_pos m with e | e
    · have := h3 e; omega
    · exact e
  · intro hm
    rcases Nat.eq_zero_or_pos b with e | e
    · rw [e] at h1; simp at h1; omega
    · exact e
set_option maxHeartbeats 400000 in
theorem signed_yes (w : World) (ao : Option Addr) (l c m K : Nat) (hK : K ≤ 1000000000) (ha : NatIs w (.agg #[.slice ao l c]) m K) :
    Calls Tryz.prog 94 #[.bool true, .agg #[.slice ao l c]] w fun e w' => e = .returned (.agg #[.slice ao l c, .bool (decide (0 < m))]) ∧ Below w.heap.size w w' := by
  obtain ⟨b, hb⟩ : ∃ b, Bin m b := ⟨_, bin_ex m⟩
  have hp := hid (bin_pos hb)
  have hb0 : Below w.heap.size w (w.alloc (Obj.cells #[.slice ao l c] 55)) := (Below.refl _ _).alloc (Nat.le_refl _) _
  go_enter Tryz.func94, Tryz.ntmps94
  go_wp2_with fail
  have hx : ((w.alloc (Obj.cells #[.slice ao l c] 55)).alloc (Obj.cells #[.slice none 0 0, .bool false] 57)).heap[w.heap.size]? = some (Obj.cells #[.slice ao l c] 55) := boxed2_first _ _ _
  have hy : ((w.alloc (Obj.cells #[.slice ao l c] 55)).alloc (Obj.cells #[.slice none 0 0, .bool false] 57)).heap[w.heap.size + 1]? = some (Obj.cells #[.slice none 0 0, .bool false] 57) := boxed2_second _ _ _
  have hB := boxed2 (Below.refl w.heap.size w) (Obj.cells #[.slice ao l c] 55) (Obj.cells #[.slice none 0 0, .bool false] 57)
  generalize (w.alloc (Obj.cells #[.slice ao l c] 55)).alloc (Obj.cells #[.slice none 0 0, .bool false] 57) = W at *
  have t1 := cell_of_one hx
  have B0 : Below W.heap.size W W.drew := (Below.refl _ _).drew
  have na := ha.below hB
  have HY := hid hy
  have t2 := two_cell0 hy
  have t3 := two_cell1 hy
  have f2 := two_free (k := 0) hy
  have f3 := two_free (k := 1) hy
  clear hx hy hb0
  go_region_held3 (fun w' => w'.cell? ⟨w.heap.size, 0, none⟩ = some (.slice ao l c)) ((first | exact t1 | exact K1 | exact two_keep0 K1 (Nat.ne_of_lt (Nat.lt_succ_self _)) _ _)) (first
    | (go_at_call 68; refine (bits_any _ _ _ _ _ hK (na.below B0) hb).mono ?_; rintro e w1 ⟨rfl, hb1⟩; have K1 := (hb1.cell (World.block_lt_of_cell? W _ t1)).trans t1; have hy1 := box_below (chain2 B0 hb1) HY.out (lt_of_block HY.out); have u2 := two_cell0 hy1; have u3 := two_cell1 hy1; have v2 := two_free (k := 0) hy1; have v3 := two_free (k := 1) hy1))
  obtain ⟨k0, k1, kB⟩ := end_two (chain2 hB (chain2 B0 hb1)) (Nat.le_succ _) hy1 (.slice ao l c) (.bool (decide (0 < b)))
  go_wp2
  have HK := hid (And.intro k0 k1)
  clear k0 k1
  refine bodyPost_ret (v := .agg #[.slice ao l c, .bool (decide (0 < b))]) (by simp [results, Tryz.results94, go_sem, HK.out.1, HK.out.2]) rfl ⟨by rw [show decide (0 < b) = decide (0 < m) from decide_eq_decide.2 hp.out], kB⟩
set_option maxHeartbeats 400000 in
theorem signed_no (w : World) (ao : Option Addr) (l c : Nat) :
    Calls Tryz.prog 94 #[.bool false, .agg #[.slice ao l c]] w fun e w' => e = .returned (.agg #[.slice ao l c, .bool false]) ∧ Below w.heap.size w w' := by
  go_enter Tryz.func94, Tryz.ntmps94
  go_wp2_with fail
  have hx : ((w.alloc (Obj.cells #[.slice ao l c] 55)).alloc (Obj.cells #[.slice none 0 0, .bool false] 57)).heap[w.heap.size]? = some (Obj.cells #[.slice ao l c] 55) := boxed2_first _ _ _
  have hy : ((w.alloc (Obj.cells #[.slice ao l c] 55)).alloc (Obj.cells #[.slice none 0 0, .bool false] 57)).heap[w.heap.size + 1]? = some (Obj.cells #[.slice none 0 0, .bool false] 57) := boxed2_second _ _ _
  have hB := boxed2 (Below.refl w.heap.size w) (Obj.cells #[.slice ao l c] 55) (Obj.cells #[.slice none 0 0, .bool false] 57)
  generalize (w.alloc (Obj.cells #[.slice ao l c] 55)).alloc (Obj.cells #[.slice none 0 0, .bool false] 57) = W at *
  have t1 := cell_of_one hx
  have t2 := two_cell0 hy
  have t3 := two_cell1 hy
  have f2 := two_free (k := 0) hy
  have f3 := two_free (k := 1) hy
  obtain ⟨k0, k1, kB⟩ := end_two hB (Nat.le_succ _) hy (.slice ao l c) (.bool false)
  have HK := hid (show ((W.setCell ⟨w.heap.size + 1, 0, none⟩ (.slice ao l c)).setCell ⟨w.heap.size + 1, 1, none⟩ (.bool false)).drew.cell? ⟨w.heap.size + 1, 0, none⟩ = some (.slice ao l c) ∧ ((W.setCell ⟨w.heap.size + 1, 0, none⟩ (.slice ao l c)).setCell ⟨w.heap.size + 1, 1, none⟩ (.bool false)).drew.cell? ⟨w.heap.size + 1, 1, none⟩ = some (.bool false) from And.intro k0 k1)
  clear k0 k1 hx hy
  go_region
  go_wp2
  exact bodyPost_ret (v := .agg #[.slice ao l c, .bool false]) (by simp [results, Tryz.results94, go_sem, HK.out.1, HK.out.2]) rfl ⟨rfl, kB.drew⟩
/-- signed: the number with that sign; 0 has none. -/
theorem signed_any (w : World) (b : Bool) (a : Value) (m K : Nat) (hK : K ≤ 1000000000) (ha : NatIs w a m K) :
    Calls Tryz.prog 94 #[.bool b, a] w fun e w' => ∃ v, e = .returned v ∧ NumIs w' v (sgn b m) K ∧ Below w.heap.size w w' := by
  obtain ⟨ao, l, c, rfl⟩ := ha.form
  cases b
  · refine (signed_no w ao l c).mono ?_
    rintro e w' ⟨rfl, hw⟩
    exact ⟨_, rfl, ⟨ao, l, c, by rw [sgn_neg]; rfl, by rw [sgn_abs]; exact ha.below hw⟩, hw⟩
  · refine (signed_yes w ao l c m K hK ha).mono ?_
    rintro e w' ⟨rfl, hw⟩
    exact ⟨_, rfl, ⟨ao, l, c, by rw [sgn_neg]; rfl, by rw [sgn_abs]; exact ha.below hw⟩, hw⟩
set_option maxHeartbeats 400000 in
/-- copied: the same number. -/
theorem ncopied_any (w : World) (a : Value) (m K : Nat) (hK : K ≤ 1000000000) (ha : NatIs w a m K) :
    Calls Tryz.prog 121 #[a] w fun e w' => ∃ v, e = .returned v ∧ NatIs w' v m (K + 1) ∧ Below w.heap.size w w' := by
  obtain ⟨ao, l, c, rfl⟩ := ha.form
  have hy : ((w.alloc (Obj.cells #[.slice ao l c] 55)).alloc (Obj.cells #[.slice none 0 0] 55)).heap[w.heap.size + 1]? = some (Obj.cells #[.slice none 0 0] 55) := boxed2_second _ _ _
  have hB := boxed2 (Below.refl w.heap.size w) (Obj.cells #[.slice ao l c] 55) (Obj.cells #[.slice none 0 0] 55)
  go_enter Tryz.func121, Tryz.ntmps121
  go_wp2_with fail
  generalize (w.alloc (Obj.cells #[.slice ao l c] 55)).alloc (Obj.cells #[.slice none 0 0] 55) = W at *
  refine (add_any W _ _ m 0 K 0 hK (by omega) (ha.below hB) (nat_zero W)).mono ?_
  rintro e w1 ⟨v, rfl, nv, hb1⟩
  obtain ⟨ar, lr, cr, rfl⟩ := nv.form
  have hy1 := box_below hb1 hy (lt_of_block hy)
  have t1 := cell_of_one hy1
  have f1 := free_of_one hy1
  have k1 := cell_of_one (one_setCell (u := .slice ar lr cr) hy1)
  have HK := hid k1
  have n2 := (nv.box hy1 (by decide) (.slice ar lr cr)).mono (show max K 0 + 1 ≤ K + 1 by omega)
  have kB := (chain2 hB hb1).setCell (p := ⟨w.heap.size + 1, 0, none⟩) (Nat.le_succ _) (.slice ar lr cr)
  clear k1 hy hy1
  go_wp2
  exact bodyPost_ret (v := .agg #[.slice ar lr cr]) (by simp [results, Tryz.results121, go_sem, HK.out]) rfl ⟨_, rfl, n2, kB⟩
set_option maxHeartbeats 400000 in
/-- Sign. -/
theorem nsign_any (w : World) (a : Value) (z : Int) (K : Nat) (hK : K ≤ 1000000000) (ha : NumIs w a z K) :
    Calls Tryz.prog 46 #[a] w fun e w' => e = .returned (.int .i64 (signZ z)) ∧ Below w.heap.size w w' := by
  obtain ⟨ao, l, c, rfl, na0⟩ := ha
  obtain ⟨n, hn⟩ : ∃ n, Bin z.natAbs n := ⟨_, bin_ex _⟩
  have hp := bin_pos hn
  have hx := box_new w (Obj.cells #[.slice ao l c, .bool (decide (z < 0))] 57)
  have hB : Below w.heap.size w (w.alloc (Obj.cells #[.slice ao l c, .bool (decide (z < 0))] 57)) := (Below.refl _ _).alloc (Nat.le_refl _) _
  go_enter Tryz.func46, Tryz.ntmps46
  go_wp2_with fail
  generalize w.alloc (Obj.cells #[.slice ao l c, .bool (decide (z < 0))] 57) = W at *
  refine (bits_any W _ _ K n hK (na0.below hB) hn).mono ?_
  rintro e w1 ⟨rfl, hb1⟩
  have hx1 := box_below hb1 hx (lt_of_block hx)
  have t1 := two_cell1 hx1
  have kB := chain2 hB hb1
  clear hx hx1 hn
  rcases (show (n = 0 ∧ z = 0) ∨ (n ≠ 0 ∧ z < 0) ∨ (n ≠ 0 ∧ 0 < z) by omega) with ⟨h1, h2⟩ | ⟨h1, h2⟩ | ⟨h1, h2⟩
  · have HS := hid (show signZ z = 0 by simp [signZ, h2])
    subst h1
    clear h2 hp
    go_wp2
    go_ret
    exact ⟨by rw [HS.out]; rfl, kB⟩
  · have HS := hid (show signZ z = -1 by simp [signZ, h2])
    have h3 : ((n : Int) == 0) = false := by simp; omega
    rw [show decide (z < 0) = true by simp [h2]] at *
    clear h2 hp
    go_wp2
    go_ret
    exact ⟨by rw [HS.out]; rfl, kB⟩
  · have HS := hid (show signZ z = 1 by simp [signZ]; omega)
    have h3 : ((n : Int) == 0) = false := by simp; omega
    rw [show decide (z < 0) = false by simp; omega] at *
    clear h2 hp
    go_wp2
    go_ret
    exact ⟨by rw [HS.out]; rfl, kB⟩
end Go.Proofs.YtgojlegknlalpaaGreatDoor
/- Whole numbers: Parse. -/
namespace Go.Proofs.YtgojlegknlalpaaGreatDoor
open Go.RowKit
set_option linter.unusedVariables false
set_option maxRecDepth 100000
set_option linter.unusedSimpArgs false
attribute [local go_sem ↓] Go.wp_at_zero Go.wp_at_succ

theorem tl_cons (s : ByteArray) (h : 0 < s.size) : ∃ l, s.data.toList = s[0] :: l ∧ (s.extract 1 s.size).data.toList = l := by
  obtain ⟨⟨l⟩⟩ := s
  match l, h with
  | x :: l, _ => exact ⟨l, rfl, by rw [ByteArray.data_extract, Array.toList_extract]; show List.take _ (List.drop 1 (x :: l)) = l; rw [List.drop_one, List.tail_cons]; exact List.take_of_length_le (by show l.length ≤ (x :: l).length - 1; simp)⟩
end Go.Proofs.YtgojlegknlalpaaGreatDoor
/- The laws of whole numbers' own helper 'number'. -/
namespace Go.Proofs.YtgojlegknlalpaaGreatDoor
open Go.RowKit
set_option linter.unusedVariables false
set_option maxRecDepth 100000
set_option linter.unusedSimpArgs false

theorem sparse_z (s : ByteArray) (z : Int) (w : World) (hs : s.size ≤ 1000000000) (h : ZTx s z) :
    Calls Tryz.prog 61 #[.string s] w fun e w' => ∃ ao l c, e = .returned (.tuple #[.agg #[.bool (decide (z < 0)), .slice ao l c], .int .i64 0]) ∧ RefIs w' (.agg #[.slice ao l c]) z.natAbs (s.size / 9 + 1) ∧ Below w.heap.size w w' := by
  have h0 := h.sign.1
  rcases ztx_cases s with ⟨h1, ⟨y, h2, h3, h4, h5⟩ | ⟨_, h6⟩⟩ | ⟨h1, h2, h3, ⟨h4, h5, h6⟩ | ⟨_, _, h6⟩ | ⟨_, h6⟩⟩
  · have e := h.uniq h3
    subst e
    refine (sparse_plain s w hs h0 h1 h4).mono ?_
    rintro e w' ⟨v, rfl, ⟨ao, l, c, rfl, n⟩, hb⟩
    rw [show sgn false (num s) = z by simp [sgn]; omega] at n ⊢
    exact ⟨ao, l, c, rfl, n, hb⟩
  · exact absurd h (h6 z)
  · have e := h.uniq h6
    refine (sparse_minus s _ w hs h0 h1 rfl h4 h5).mono ?_
    rintro e w' ⟨v, rfl, ⟨ao, l, c, rfl, n⟩, hb⟩
    rw [show sgn true (num (s.extract 1 s.size)) = z by simp [sgn]; omega] at n ⊢
    exact ⟨ao, l, c, rfl, n.mono (by simp; omega), hb⟩
  · exact absurd h (h6 z)
  · exact absurd h (h6 z)
theorem sparse_none (s : ByteArray) (w : World) (hs : s.size ≤ 1000000000) (h : ∀ z, ¬ ZTx s z) :
    Calls Tryz.prog 61 #[.string s] w fun e w' => e = .returned (.tuple #[.agg #[.bool false, .slice none 0 0], .int .i64 10]) ∧ Below w.heap.size w w' := by
  by_cases hz : s.size = 0
  · exact sparse_empty s w hz
  rcases ztx_cases s with ⟨h1, ⟨y, h2, h3, h4, h5⟩ | ⟨h5, h6⟩⟩ | ⟨h1, h2, h3, ⟨h4, h5, h6⟩ | ⟨h4, h5, h6⟩ | ⟨h4, h6⟩⟩
  · exact absurd h3 (h _)
  · exact sparse_plain_no s w hs (by omega) h1 h5
  · exact absurd h6 (h _)
  · exact sparse_minus_nought s w hs h2 h1 h4 h5
  · exact sparse_minus_no s w hs h2 h1 h4
theorem box_set' {w : World} {b c : Nat} {o : Obj} (hb : w.heap[b]? = some o) (hne : b ≠ c) (k : Nat) (u : Value) : (w.setCell ⟨c, k, none⟩ u).heap[b]? = some o := (Below.heap_setCell w _ u b hne).trans hb
theorem end_pair {w W : World} {p : Nat} {u0 v0 u1 v1 : Value} {t t' : TypeId} (hw : Below w.heap.size w W) (hp : w.heap.size ≤ p) (hx : W.heap[p]? = some (.cells #[u0, v0] t (0, 0))) (hy : W.heap[p + 1]? = some (.cells #[u1, v1] t' (0, 0))) (a b c d : Value) :
    let V := (((W.setCell ⟨p, 0, none⟩ a).setCell ⟨p, 1, none⟩ b).setCell ⟨p + 1, 0, none⟩ c).setCell ⟨p + 1, 1, none⟩ d
    V.heap[p]? = some (.cells #[a, b] t (0, 0)) ∧ V.heap[p + 1]? = some (.cells #[c, d] t' (0, 0)) ∧ Below w.heap.size w V := by
  intro V
  have k1 := two_set1 (x := b) (two_set0 (x := a) hx)
  have k2 := box_set' (box_set' hy (show p + 1 ≠ p by omega) 0 a) (show p + 1 ≠ p by omega) 1 b
  have k3 := two_set1 (x := d) (two_set0 (x := c) k2)
  have k4 := box_set' (box_set' k1 (show p ≠ p + 1 by omega) 0 c) (show p ≠ p + 1 by omega) 1 d
  exact ⟨k4, k3, (((hw.setCell (p := ⟨p, 0, none⟩) hp a).setCell (p := ⟨p, 1, none⟩) hp b).setCell (p := ⟨p + 1, 0, none⟩) (show w.heap.size ≤ p + 1 by omega) c).setCell (p := ⟨p + 1, 1, none⟩) (show w.heap.size ≤ p + 1 by omega) d⟩
end Go.Proofs.YtgojlegknlalpaaGreatDoor
/- Whole numbers: Abs. -/
namespace Go.Proofs.YtgojlegknlalpaaGreatDoor
open Go.RowKit
set_option linter.unusedVariables false
set_option maxRecDepth 100000
set_option linter.unusedSimpArgs false
attribute [local go_sem ↓] Go.wp_at_zero Go.wp_at_succ

set_option maxHeartbeats 800000 in
/-- Abs: the number without its sign. -/
theorem nabs_any (w : World) (a : Value) (z : Int) (K : Nat) (hK : K < 1000000000) (ha : NumIs w a z K) :
    Calls Tryz.prog 100 #[a] w fun e w' => ∃ v, e = .returned v ∧ NatIs w' v z.natAbs (K + 1) ∧ Below w.heap.size w w' := by
  obtain ⟨ao, l, c, rfl, na0⟩ := ha
  generalize decide (z < 0) = b at *
  have hy : ((w.alloc (Obj.cells #[.slice ao l c, .bool b] 57)).alloc (Obj.cells #[.slice none 0 0] 55)).heap[w.heap.size + 1]? = some (Obj.cells #[.slice none 0 0] 55) := boxed2_second _ _ _
  have hB := boxed2 (Below.refl w.heap.size w) (Obj.cells #[.slice ao l c, .bool b] 57) (Obj.cells #[.slice none 0 0] 55)
  go_enter Tryz.func100, Tryz.ntmps100
  go_wp2_with fail
  generalize (w.alloc (Obj.cells #[.slice ao l c, .bool b] 57)).alloc (Obj.cells #[.slice none 0 0] 55) = W at *
  refine (ncopied_any W _ _ K (by omega) (na0.below hB)).mono ?_
  rintro e w1 ⟨v, rfl, nv, hb1⟩
  obtain ⟨ar, lr, cr, rfl⟩ := nv.form
  have hy1 := box_below hb1 hy (lt_of_block hy)
  have t1 := cell_of_one hy1
  have f1 := free_of_one hy1
  have k1 := cell_of_one (one_setCell (u := .slice ar lr cr) hy1)
  have HK := hid k1
  have n2 := nv.box hy1 (by decide) (.slice ar lr cr)
  have kB := (chain2 hB hb1).setCell (p := ⟨w.heap.size + 1, 0, none⟩) (Nat.le_succ _) (.slice ar lr cr)
  clear k1 hy hy1
  go_wp2
  exact bodyPost_ret (v := .agg #[.slice ar lr cr]) (by simp [results, Tryz.results100, go_sem, HK.out]) rfl ⟨_, rfl, n2, kB⟩
end Go.Proofs.YtgojlegknlalpaaGreatDoor
/- Whole numbers: Add. -/
namespace Go.Proofs.YtgojlegknlalpaaGreatDoor
open Go.RowKit
set_option linter.unusedVariables false
set_option maxRecDepth 100000
set_option linter.unusedSimpArgs false
attribute [local go_sem ↓] Go.wp_at_zero Go.wp_at_succ

theorem sgn_add_same {x y : Int} (h : decide (x < 0) = decide (y < 0)) : sgn (decide (x < 0)) (x.natAbs + y.natAbs) = x + y := by
  unfold sgn; by_cases hx : x < 0 <;> by_cases hy : y < 0 <;> simp [hx, hy] at h ⊢ <;> omega
theorem sgn_add_more {x y : Int} (h : decide (x < 0) ≠ decide (y < 0)) (hl : y.natAbs ≤ x.natAbs) : sgn (decide (x < 0)) (x.natAbs - y.natAbs) = x + y := by
  unfold sgn; by_cases hx : x < 0 <;> by_cases hy : y < 0 <;> simp [hx, hy] at h ⊢ <;> omega
theorem sgn_add_less {x y : Int} (h : decide (x < 0) ≠ decide (y < 0)) (hl : x.natAbs ≤ y.natAbs) : sgn (decide (y < 0)) (y.natAbs - x.natAbs) = x + y := by
  unfold sgn; by_cases hx : x < 0 <;> by_cases hy : y < 0 <;> simp [hx, hy] at h ⊢ <;> omega
theorem keepN {W X : World} {p q : Nat} {a b c d : Value} (h1 : W.cell? ⟨p, 0, none⟩ = some a) (h2 : W.cell? ⟨p, 1, none⟩ = some b) (h3 : W.cell? ⟨q, 0, none⟩ = some c) (h4 : W.cell? ⟨q, 1, none⟩ = some d) (h : Below W.heap.size W X) :
    X.cell? ⟨p, 0, none⟩ = some a ∧ X.cell? ⟨p, 1, none⟩ = some b ∧ X.cell? ⟨q, 0, none⟩ = some c ∧ X.cell? ⟨q, 1, none⟩ = some d := ⟨kc h h1, kc h h2, kc h h3, kc h h4⟩
theorem keepN2 {X : World} {p q r : Nat} {a b c d : Value} (h : X.cell? ⟨p, 0, none⟩ = some a ∧ X.cell? ⟨p, 1, none⟩ = some b ∧ X.cell? ⟨q, 0, none⟩ = some c ∧ X.cell? ⟨q, 1, none⟩ = some d) (h1 : p ≠ r) (h2 : q ≠ r) (u v : Value) :
    ((X.setCell ⟨r, 0, none⟩ u).setCell ⟨r, 1, none⟩ v).cell? ⟨p, 0, none⟩ = some a ∧ ((X.setCell ⟨r, 0, none⟩ u).setCell ⟨r, 1, none⟩ v).cell? ⟨p, 1, none⟩ = some b ∧ ((X.setCell ⟨r, 0, none⟩ u).setCell ⟨r, 1, none⟩ v).cell? ⟨q, 0, none⟩ = some c ∧ ((X.setCell ⟨r, 0, none⟩ u).setCell ⟨r, 1, none⟩ v).cell? ⟨q, 1, none⟩ = some d :=
  ⟨two_keep0 h.1 h1 _ _, two_keep0 h.2.1 h1 _ _, two_keep0 h.2.2.1 h2 _ _, two_keep0 h.2.2.2 h2 _ _⟩
set_option maxHeartbeats 1000000 in
theorem nadd_same (w : World) (aa ab : Option Addr) (la ca lb cb m n K K' : Nat) (b : Bool) (hK : K < 1000000000) (hK' : K' < 1000000000) (na0 : NatIs w (.agg #[.slice aa la ca]) m K) (nb0 : NatIs w (.agg #[.slice ab lb cb]) n K') :
    Calls Tryz.prog 70 #[.agg #[.slice aa la ca, .bool b], .agg #[.slice ab lb cb, .bool b]] w fun e w' => ∃ v, e = .returned v ∧ NumIs w' v (sgn b (m + n)) (max K K' + 1) ∧ Below w.heap.size w w' := by
  have hx := boxed3_first w (Obj.cells #[.slice aa la ca, .bool b] 57) (Obj.cells #[.slice ab lb cb, .bool b] 57) (Obj.cells #[.slice none 0 0, .bool false] 57)
  have hz := boxed3_second w (Obj.cells #[.slice aa la ca, .bool b] 57) (Obj.cells #[.slice ab lb cb, .bool b] 57) (Obj.cells #[.slice none 0 0, .bool false] 57)
  have hy := boxed3_third w (Obj.cells #[.slice aa la ca, .bool b] 57) (Obj.cells #[.slice ab lb cb, .bool b] 57) (Obj.cells #[.slice none 0 0, .bool false] 57)
  have hB := boxed3 (Below.refl w.heap.size w) (Obj.cells #[.slice aa la ca, .bool b] 57) (Obj.cells #[.slice ab lb cb, .bool b] 57) (Obj.cells #[.slice none 0 0, .bool false] 57)
  go_enter Tryz.func70, Tryz.ntmps70
  go_wp2_with fail
  generalize ((w.alloc (Obj.cells #[.slice aa la ca, .bool b] 57)).alloc (Obj.cells #[.slice ab lb cb, .bool b] 57)).alloc (Obj.cells #[.slice none 0 0, .bool false] 57) = W at *
  have t1 := two_cell0 hx
  have t2 := two_cell1 hx
  have t3 := two_cell0 hz
  have t4 := two_cell1 hz
  have B0 : Below W.heap.size W W.drew := (Below.refl _ _).drew
  have na := na0.below hB
  have nb := nb0.below hB
  have HY := hid hy
  clear hx hy hz
  go_region_held3 (fun w' => w'.cell? ⟨w.heap.size, 0, none⟩ = some (.slice aa la ca) ∧ w'.cell? ⟨w.heap.size, 1, none⟩ = some (.bool b) ∧ w'.cell? ⟨w.heap.size + 1, 0, none⟩ = some (.slice ab lb cb) ∧ w'.cell? ⟨w.heap.size + 1, 1, none⟩ = some (.bool b)) ((first | exact ⟨t1, t2, t3, t4⟩ | exact K1 | exact K2 | exact keepN2 K2 (by omega) (by omega) _ _)) (first
    | (have gk := B1; go_at_call 94; refine (signed_any _ _ _ _ _ (by omega) n1).mono ?_; rintro e w2 ⟨v2, rfl, n2, hb2⟩; have B2 := chain2 B1 hb2; have K2 := keepN t1 t2 t3 t4 B2; obtain ⟨ar, lr, cr, rfl, n3⟩ := n2; have hy1 := box_below B2 HY.out (lt_of_block HY.out); have u2 := two_cell0 hy1; have u3 := two_cell1 hy1; have v2 := two_free (k := 0) hy1; have v3 := two_free (k := 1) hy1)
    | (have gk := B0; go_at_call 95; refine (add_any _ _ _ _ _ _ _ (by omega) (by omega) (na.below B0) (nb.below B0)).mono ?_; rintro e w1 ⟨v1, rfl, n1, hb1⟩; have B1 := chain2 B0 hb1; have K1 := keepN t1 t2 t3 t4 B1))
  obtain ⟨k0, k1, kB⟩ := end_two (chain2 hB B2) (show w.heap.size ≤ w.heap.size + 1 + 1 by omega) hy1 (.slice ar lr cr) (.bool (decide (sgn b (m + n) < 0)))
  have n4 := n3.box2 hy1 (by decide) (.slice ar lr cr) (.bool (decide (sgn b (m + n) < 0)))
  have HK := hid (And.intro k0 k1)
  clear k0 k1
  go_wp2
  exact bodyPost_ret (v := .agg #[.slice ar lr cr, .bool (decide (sgn b (m + n) < 0))]) (by simp [results, Tryz.results70, go_sem, HK.out.1, HK.out.2]) rfl ⟨_, rfl, ⟨ar, lr, cr, rfl, n4⟩, kB⟩
set_option maxHeartbeats 1000000 in
theorem nadd_other (w : World) (aa ab : Option Addr) (la ca lb cb m n K K' : Nat) (b b' : Bool) (r : Int) (hr1 : n ≤ m → sgn b (m - n) = r) (hr2 : ¬ n ≤ m → sgn b' (n - m) = r) (hbb : b ≠ b') (hK : K < 1000000000) (hK' : K' < 1000000000) (na0 : NatIs w (.agg #[.slice aa la ca]) m K) (nb0 : NatIs w (.agg #[.slice ab lb cb]) n K') :
    Calls Tryz.prog 70 #[.agg #[.slice aa la ca, .bool b], .agg #[.slice ab lb cb, .bool b']] w fun e w' => ∃ v, e = .returned v ∧ NumIs w' v r (max K K' + 1) ∧ Below w.heap.size w w' := by
  have hx := boxed3_first w (Obj.cells #[.slice aa la ca, .bool b] 57) (Obj.cells #[.slice ab lb cb, .bool b'] 57) (Obj.cells #[.slice none 0 0, .bool false] 57)
  have hz := boxed3_second w (Obj.cells #[.slice aa la ca, .bool b] 57) (Obj.cells #[.slice ab lb cb, .bool b'] 57) (Obj.cells #[.slice none 0 0, .bool false] 57)
  have hy := boxed3_third w (Obj.cells #[.slice aa la ca, .bool b] 57) (Obj.cells #[.slice ab lb cb, .bool b'] 57) (Obj.cells #[.slice none 0 0, .bool false] 57)
  have hB := boxed3 (Below.refl w.heap.size w) (Obj.cells #[.slice aa la ca, .bool b] 57) (Obj.cells #[.slice ab lb cb, .bool b'] 57) (Obj.cells #[.slice none 0 0, .bool false] 57)
  go_enter Tryz.func70, Tryz.ntmps70
  have hbe : (b == b') = false := by simpa using hbb
  have HR := hid (And.intro hr1 hr2)
  clear hr1 hr2
  go_wp2_with fail
  generalize ((w.alloc (Obj.cells #[.slice aa la ca, .bool b] 57)).alloc (Obj.cells #[.slice ab lb cb, .bool b'] 57)).alloc (Obj.cells #[.slice none 0 0, .bool false] 57) = W at *
  have na := na0.below hB
  have nb := nb0.below hB
  refine (sub_both W _ _ _ _ _ _ _ _ _ _ (by omega) (by omega) na nb).mono ?_
  rintro e w1 ⟨ar, lr, cr, rfl, n1, hb1⟩
  have hx3 := below_alloc' hb1 (Nat.le_refl _) (Obj.cells #[.slice ar lr cr] 55)
  have c1 := chain2 hB hx3
  have hx1 := box_below hx3 hx (lt_of_block hx)
  have hz1 := box_below hx3 hz (lt_of_block hz)
  have hy1 := box_below hx3 hy (lt_of_block hy)
  have hn1 := box_new w1 (Obj.cells #[.slice ar lr cr] 55)
  have na1 := na.below hx3
  have nb1 := nb.below hx3
  have n1 := n1.below ((Below.refl _ _).alloc (Nat.le_refl _) (Obj.cells #[.slice ar lr cr] 55))
  by_cases hmn : n ≤ m
  · have HS := hid (HR.out.1 hmn)
    rw [show subE m n = 0 by simp [subE]; omega]
    have t2 := two_cell1 hx1
    clear hx hz hy hx1 hz1 hmn hx3 hb1 na1 nb1
    go_wp2_with fail
    generalize w1.alloc (Obj.cells #[.slice ar lr cr] 55) = W1 at *
    refine (signed_any _ _ _ _ _ (by omega) n1).mono ?_
    rintro e w2 ⟨v2, rfl, n2, hb2⟩
    obtain ⟨aq, lq, cq, rfl, n3⟩ := n2
    have hy2 := box_below hb2 hy1 (lt_of_block hy1)
    have u2 := two_cell0 hy2
    have u3 := two_cell1 hy2
    have v2 := two_free (k := 0) hy2
    have v3 := two_free (k := 1) hy2
    obtain ⟨k0, k1, kB⟩ := end_two (chain2 c1 hb2) (show w.heap.size ≤ w.heap.size + 1 + 1 by omega) hy2 (.slice aq lq cq) (.bool (decide (sgn b (m - n) < 0)))
    have n4 := n3.box2 hy2 (by decide) (.slice aq lq cq) (.bool (decide (sgn b (m - n) < 0)))
    have HK := hid (And.intro k0 k1)
    clear k0 k1
    go_wp2
    refine bodyPost_ret (v := .agg #[.slice aq lq cq, .bool (decide (sgn b (m - n) < 0))]) (by simp [results, Tryz.results70, go_sem, HK.out.1, HK.out.2]) rfl ⟨_, rfl, ?_, kB⟩
    rw [← HS.out]
    exact ⟨aq, lq, cq, rfl, n4.mono (by omega)⟩
  · have HS := hid (HR.out.2 hmn)
    rw [show subE m n = 11 by simp [subE]; omega]
    have t1 := two_cell0 hx1
    have t3 := two_cell0 hz1
    clear hx hz hy hx3 hb1 hx1
    go_wp2_with fail
    clear t1 t3
    generalize w1.alloc (Obj.cells #[.slice ar lr cr] 55) = W1 at *
    refine (sub_both W1 _ _ _ _ _ _ _ _ _ _ (by omega) (by omega) nb1 na1).mono ?_
    rintro e w2 ⟨aS, ls, cs, rfl, n2, hb2⟩
    have hx4 := below_alloc' hb2 (Nat.le_refl _) (Obj.cells #[.slice aS ls cs] 55)
    have c2 := chain2 c1 hx4
    have hz2 := box_below hx4 hz1 (lt_of_block hz1)
    have hy2 := box_below hx4 hy1 (lt_of_block hy1)
    have n2 := n2.below ((Below.refl _ _).alloc (Nat.le_refl _) (Obj.cells #[.slice aS ls cs] 55))
    have t4 := two_cell1 hz2
    clear hz1 hy1 hz2 hx4 hb2 na1 nb1 hn1 n1
    go_wp2_with fail
    generalize w2.alloc (Obj.cells #[.slice aS ls cs] 55) = W2 at *
    refine (signed_any _ _ _ _ _ (by omega) n2).mono ?_
    rintro e w3 ⟨v3, rfl, n3, hb3⟩
    obtain ⟨aq, lq, cq, rfl, n5⟩ := n3
    have hy3 := box_below hb3 hy2 (lt_of_block hy2)
    have u2 := two_cell0 hy3
    have u3 := two_cell1 hy3
    have v2 := two_free (k := 0) hy3
    have v3 := two_free (k := 1) hy3
    obtain ⟨k0, k1, kB⟩ := end_two (chain2 c2 hb3) (show w.heap.size ≤ w.heap.size + 1 + 1 by omega) hy3 (.slice aq lq cq) (.bool (decide (sgn b' (n - m) < 0)))
    have n4 := n5.box2 hy3 (by decide) (.slice aq lq cq) (.bool (decide (sgn b' (n - m) < 0)))
    have HK := hid (And.intro k0 k1)
    clear k0 k1
    go_wp2
    refine bodyPost_ret (v := .agg #[.slice aq lq cq, .bool (decide (sgn b' (n - m) < 0))]) (by simp [results, Tryz.results70, go_sem, HK.out.1, HK.out.2]) rfl ⟨_, rfl, ?_, kB⟩
    rw [← HS.out]
    exact ⟨aq, lq, cq, rfl, n4.mono (by omega)⟩
/-- Add: the sum. -/
theorem nadd_any (w : World) (a b : Value) (x y : Int) (K K' : Nat) (hK : K < 1000000000) (hK' : K' < 1000000000) (ha : NumIs w a x K) (hb : NumIs w b y K') :
    Calls Tryz.prog 70 #[a, b] w fun e w' => ∃ v, e = .returned v ∧ NumIs w' v (x + y) (max K K' + 1) ∧ Below w.heap.size w w' := by
  obtain ⟨aa, la, ca, rfl, na⟩ := ha
  obtain ⟨ab, lb, cb, rfl, nb⟩ := hb
  by_cases h : decide (x < 0) = decide (y < 0)
  · have e := sgn_add_same h
    rw [← h, ← e]
    exact nadd_same w aa ab la ca lb cb _ _ K K' _ hK hK' na nb
  · exact nadd_other w aa ab la ca lb cb _ _ K K' _ _ _ (fun hl => sgn_add_more h hl) (fun hl => sgn_add_less h (by omega)) h hK hK' na nb
end Go.Proofs.YtgojlegknlalpaaGreatDoor
/- Whole numbers: Sub, Mul, Abs. -/
namespace Go.Proofs.YtgojlegknlalpaaGreatDoor
open Go.RowKit
set_option linter.unusedVariables false
set_option maxRecDepth 100000
set_option linter.unusedSimpArgs false
attribute [local go_sem ↓] Go.wp_at_zero Go.wp_at_succ

theorem sgn_mul (x y : Int) : sgn (decide (x < 0) != decide (y < 0)) (x.natAbs * y.natAbs) = x * y := by
  rw [← Int.natAbs_mul]
  by_cases hx : x < 0 <;> by_cases hy : y < 0
  · have : 0 < x * y := Int.mul_pos_of_neg_of_neg hx hy
    simp [sgn, hx, hy]; omega
  · have : x * y ≤ 0 := Int.mul_nonpos_of_nonpos_of_nonneg (by omega) (by omega)
    simp [sgn, hx, hy]; omega
  · have : x * y ≤ 0 := Int.mul_nonpos_of_nonneg_of_nonpos (by omega) (by omega)
    simp [sgn, hx, hy]; omega
  · have : 0 ≤ x * y := Int.mul_nonneg (by omega) (by omega)
    simp [sgn, hx, hy]; omega
set_option maxHeartbeats 2000000 in
theorem nmul_walk (w : World) (aa ab : Option Addr) (la ca lb cb m n K K' : Nat) (b b' : Bool) (hK : K < 400000000) (hK' : K' < 400000000) (na0 : NatIs w (.agg #[.slice aa la ca]) m K) (nb0 : NatIs w (.agg #[.slice ab lb cb]) n K') :
    Calls Tryz.prog 76 #[.agg #[.slice aa la ca, .bool b], .agg #[.slice ab lb cb, .bool b']] w fun e w' => ∃ v, e = .returned v ∧ NumIs w' v (sgn (b != b') (m * n)) (K + K') ∧ Below w.heap.size w w' := by
  have hx := boxed3_first w (Obj.cells #[.slice aa la ca, .bool b] 57) (Obj.cells #[.slice ab lb cb, .bool b'] 57) (Obj.cells #[.slice none 0 0, .bool false] 57)
  have hz := boxed3_second w (Obj.cells #[.slice aa la ca, .bool b] 57) (Obj.cells #[.slice ab lb cb, .bool b'] 57) (Obj.cells #[.slice none 0 0, .bool false] 57)
  have hy := boxed3_third w (Obj.cells #[.slice aa la ca, .bool b] 57) (Obj.cells #[.slice ab lb cb, .bool b'] 57) (Obj.cells #[.slice none 0 0, .bool false] 57)
  have hB := boxed3 (Below.refl w.heap.size w) (Obj.cells #[.slice aa la ca, .bool b] 57) (Obj.cells #[.slice ab lb cb, .bool b'] 57) (Obj.cells #[.slice none 0 0, .bool false] 57)
  go_enter Tryz.func76, Tryz.ntmps76
  go_wp2_with fail
  generalize ((w.alloc (Obj.cells #[.slice aa la ca, .bool b] 57)).alloc (Obj.cells #[.slice ab lb cb, .bool b'] 57)).alloc (Obj.cells #[.slice none 0 0, .bool false] 57) = W at *
  have t1 := two_cell0 hx
  have t2 := two_cell1 hx
  have t3 := two_cell0 hz
  have t4 := two_cell1 hz
  have B0 : Below W.heap.size W W.drew := (Below.refl _ _).drew
  have na := na0.below hB
  have nb := nb0.below hB
  have HY := hid hy
  clear hx hy hz
  go_region_held3 (fun w' => w'.cell? ⟨w.heap.size, 0, none⟩ = some (.slice aa la ca) ∧ w'.cell? ⟨w.heap.size, 1, none⟩ = some (.bool b) ∧ w'.cell? ⟨w.heap.size + 1, 0, none⟩ = some (.slice ab lb cb) ∧ w'.cell? ⟨w.heap.size + 1, 1, none⟩ = some (.bool b')) ((first | exact ⟨t1, t2, t3, t4⟩ | exact K1 | exact K2 | exact keepN2 K2 (by omega) (by omega) _ _)) (first
    | (have gk := B1; go_at_call 94; refine (signed_any _ (b != b') _ _ _ (by omega) n1).mono ?_; rintro e w2 ⟨v2, rfl, n2, hb2⟩; have B2 := chain2 B1 hb2; have K2 := keepN t1 t2 t3 t4 B2; obtain ⟨ar, lr, cr, rfl, n3⟩ := n2; have hy1 := box_below B2 HY.out (lt_of_block HY.out); have u2 := two_cell0 hy1; have u3 := two_cell1 hy1; have v2 := two_free (k := 0) hy1; have v3 := two_free (k := 1) hy1)
    | (have gk := B0; go_at_call 103; refine (mul_any _ _ _ _ _ _ _ (by omega) (by omega) (na.below B0) (nb.below B0)).mono ?_; rintro e w1 ⟨v1, rfl, n1, hb1⟩; have B1 := chain2 B0 hb1; have K1 := keepN t1 t2 t3 t4 B1))
  obtain ⟨k0, k1, kB⟩ := end_two (chain2 hB B2) (show w.heap.size ≤ w.heap.size + 1 + 1 by omega) hy1 (.slice ar lr cr) (.bool (decide (sgn (b != b') (m * n) < 0)))
  have n4 := n3.box2 hy1 (by decide) (.slice ar lr cr) (.bool (decide (sgn (b != b') (m * n) < 0)))
  have HK := hid (And.intro k0 k1)
  clear k0 k1
  go_wp2
  exact bodyPost_ret (v := .agg #[.slice ar lr cr, .bool (decide (sgn (b != b') (m * n) < 0))]) (by simp [results, Tryz.results76, go_sem, HK.out.1, HK.out.2]) rfl ⟨_, rfl, ⟨ar, lr, cr, rfl, n4⟩, kB⟩
/-- Mul: the product. -/
theorem nmul_any (w : World) (a b : Value) (x y : Int) (K K' : Nat) (hK : K < 400000000) (hK' : K' < 400000000) (ha : NumIs w a x K) (hb : NumIs w b y K') :
    Calls Tryz.prog 76 #[a, b] w fun e w' => ∃ v, e = .returned v ∧ NumIs w' v (x * y) (K + K') ∧ Below w.heap.size w w' := by
  obtain ⟨aa, la, ca, rfl, na⟩ := ha
  obtain ⟨ab, lb, cb, rfl, nb⟩ := hb
  rw [← sgn_mul]
  exact nmul_walk w aa ab la ca lb cb _ _ K K' _ _ hK hK' na nb
set_option maxHeartbeats 2000000 in
/-- Sub: the difference. -/
theorem nsub_any (w : World) (a b : Value) (x y : Int) (K K' : Nat) (hK : K < 1000000000) (hK' : K' < 1000000000) (ha : NumIs w a x K) (hb : NumIs w b y K') :
    Calls Tryz.prog 78 #[a, b] w fun e w' => ∃ v, e = .returned v ∧ NumIs w' v (x - y) (max K K' + 1) ∧ Below w.heap.size w w' := by
  obtain ⟨aa, la, ca, rfl, na0⟩ := ha
  obtain ⟨ab, lb, cb, rfl, nb0⟩ := hb
  have Na0 : NumIs w (.agg #[.slice aa la ca, .bool (decide (x < 0))]) x K := ⟨aa, la, ca, rfl, na0⟩
  have HZ := hid (sgn_not y)
  rw [Int.sub_eq_add_neg]
  generalize decide (x < 0) = b at *
  generalize decide (y < 0) = b' at *
  have hx := boxed3_first w (Obj.cells #[.slice aa la ca, .bool b] 57) (Obj.cells #[.slice ab lb cb, .bool b'] 57) (Obj.cells #[.slice none 0 0, .bool false] 57)
  have hz := boxed3_second w (Obj.cells #[.slice aa la ca, .bool b] 57) (Obj.cells #[.slice ab lb cb, .bool b'] 57) (Obj.cells #[.slice none 0 0, .bool false] 57)
  have hy := boxed3_third w (Obj.cells #[.slice aa la ca, .bool b] 57) (Obj.cells #[.slice ab lb cb, .bool b'] 57) (Obj.cells #[.slice none 0 0, .bool false] 57)
  have hB := boxed3 (Below.refl w.heap.size w) (Obj.cells #[.slice aa la ca, .bool b] 57) (Obj.cells #[.slice ab lb cb, .bool b'] 57) (Obj.cells #[.slice none 0 0, .bool false] 57)
  go_enter Tryz.func78, Tryz.ntmps78
  go_wp2_with fail
  generalize ((w.alloc (Obj.cells #[.slice aa la ca, .bool b] 57)).alloc (Obj.cells #[.slice ab lb cb, .bool b'] 57)).alloc (Obj.cells #[.slice none 0 0, .bool false] 57) = W at *
  have t1 := two_cell0 hx
  have t2 := two_cell1 hx
  have t3 := two_cell0 hz
  have t4 := two_cell1 hz
  have B0 : Below W.heap.size W W.drew := (Below.refl _ _).drew
  have Na := Na0.below hB
  have nb := nb0.below hB
  have HY := hid hy
  clear hx hy hz
  go_region_held3 (fun w' => w'.cell? ⟨w.heap.size, 0, none⟩ = some (.slice aa la ca) ∧ w'.cell? ⟨w.heap.size, 1, none⟩ = some (.bool b) ∧ w'.cell? ⟨w.heap.size + 1, 0, none⟩ = some (.slice ab lb cb) ∧ w'.cell? ⟨w.heap.size + 1, 1, none⟩ = some (.bool b')) ((first | exact ⟨t1, t2, t3, t4⟩ | exact K1 | exact K2 | exact keepN2 K2 (by omega) (by omega) _ _)) (first
    | (have gk := B1; go_at_call 70; refine (nadd_any _ _ _ _ _ _ _ (by omega) (by omega) (Na.below B1) n1).mono ?_; rintro e w2 ⟨v2, rfl, n2, hb2⟩; have B2 := chain2 B1 hb2; have K2 := keepN t1 t2 t3 t4 B2; obtain ⟨ar, lr, cr, rfl, n3⟩ := n2; have hy1 := box_below B2 HY.out (lt_of_block HY.out); have u2 := two_cell0 hy1; have u3 := two_cell1 hy1; have v2 := two_free (k := 0) hy1; have v3 := two_free (k := 1) hy1)
    | (have gk := B0; go_at_call 94; refine (signed_any _ (!b') _ _ _ (by omega) (nb.below B0)).mono ?_; rintro e w1 ⟨v1, rfl, n1, hb1⟩; have B1 := chain2 B0 hb1; have K1 := keepN t1 t2 t3 t4 B1; rw [HZ.out] at n1))
  obtain ⟨k0, k1, kB⟩ := end_two (chain2 hB B2) (show w.heap.size ≤ w.heap.size + 1 + 1 by omega) hy1 (.slice ar lr cr) (.bool (decide (x + -y < 0)))
  have n4 := n3.box2 hy1 (by decide) (.slice ar lr cr) (.bool (decide (x + -y < 0)))
  have HK := hid (And.intro k0 k1)
  clear k0 k1
  go_wp2
  exact bodyPost_ret (v := .agg #[.slice ar lr cr, .bool (decide (x + -y < 0))]) (by simp [results, Tryz.results78, go_sem, HK.out.1, HK.out.2]) rfl ⟨_, rfl, ⟨ar, lr, cr, rfl, n4⟩, kB⟩
end Go.Proofs.YtgojlegknlalpaaGreatDoor
/- The document's whole numbers: Add, Mul. -/
namespace Go.Proofs.YtgojlegknlalpaaGreatDoor
open Go.RowKit
set_option linter.unusedVariables false
set_option maxRecDepth 100000
set_option linter.unusedSimpArgs false
attribute [local go_sem ↓] Go.wp_at_zero Go.wp_at_succ

set_option maxHeartbeats 1000000 in
theorem sadd_same (w : World) (aa ab : Option Addr) (la ca lb cb m n K K' : Nat) (b : Bool) (hK : K < 1000000000) (hK' : K' < 1000000000) (na0 : RefIs w (.agg #[.slice aa la ca]) m K) (nb0 : RefIs w (.agg #[.slice ab lb cb]) n K') :
    Calls Tryz.prog 64 #[.agg #[.bool b, .slice aa la ca], .agg #[.bool b, .slice ab lb cb]] w fun e w' => ∃ v, e = .returned v ∧ RNumIs w' v (sgn b (m + n)) (max K K' + 1) ∧ Below w.heap.size w w' := by
  have hx := boxed3_first w (Obj.cells #[.bool b, .slice aa la ca] 72) (Obj.cells #[.bool b, .slice ab lb cb] 72) (Obj.cells #[.bool false, .slice none 0 0] 72)
  have hz := boxed3_second w (Obj.cells #[.bool b, .slice aa la ca] 72) (Obj.cells #[.bool b, .slice ab lb cb] 72) (Obj.cells #[.bool false, .slice none 0 0] 72)
  have hy := boxed3_third w (Obj.cells #[.bool b, .slice aa la ca] 72) (Obj.cells #[.bool b, .slice ab lb cb] 72) (Obj.cells #[.bool false, .slice none 0 0] 72)
  have hB := boxed3 (Below.refl w.heap.size w) (Obj.cells #[.bool b, .slice aa la ca] 72) (Obj.cells #[.bool b, .slice ab lb cb] 72) (Obj.cells #[.bool false, .slice none 0 0] 72)
  go_enter Tryz.func64, Tryz.ntmps64
  go_wp2_with fail
  generalize ((w.alloc (Obj.cells #[.bool b, .slice aa la ca] 72)).alloc (Obj.cells #[.bool b, .slice ab lb cb] 72)).alloc (Obj.cells #[.bool false, .slice none 0 0] 72) = W at *
  have t1 := two_cell0 hx
  have t2 := two_cell1 hx
  have t3 := two_cell0 hz
  have t4 := two_cell1 hz
  have B0 : Below W.heap.size W W.drew := (Below.refl _ _).drew
  have na := na0.below hB
  have nb := nb0.below hB
  have HY := hid hy
  clear hx hy hz
  go_region_held3 (fun w' => w'.cell? ⟨w.heap.size, 0, none⟩ = some (.bool b) ∧ w'.cell? ⟨w.heap.size, 1, none⟩ = some (.slice aa la ca) ∧ w'.cell? ⟨w.heap.size + 1, 0, none⟩ = some (.bool b) ∧ w'.cell? ⟨w.heap.size + 1, 1, none⟩ = some (.slice ab lb cb)) ((first | exact ⟨t1, t2, t3, t4⟩ | exact K1 | exact K2 | exact keepN2 K2 (by omega) (by omega) _ _)) (first
    | (have gk := B1; go_at_call 63; refine (smake_any _ _ _ _ _ n1).mono ?_; rintro e w2 ⟨v2, rfl, n2, hb2⟩; have B2 := chain2 B1 hb2; have K2 := keepN t1 t2 t3 t4 B2; obtain ⟨ar, lr, cr, rfl, n3⟩ := n2; have hy1 := box_below B2 HY.out (lt_of_block HY.out); have u2 := two_cell0 hy1; have u3 := two_cell1 hy1; have v2 := two_free (k := 0) hy1; have v3 := two_free (k := 1) hy1)
    | (have gk := B0; go_at_call 84; refine (radd_any _ _ _ _ _ _ _ (by omega) (by omega) (na.below B0) (nb.below B0)).mono ?_; rintro e w1 ⟨v1, rfl, n1, hb1⟩; have B1 := chain2 B0 hb1; have K1 := keepN t1 t2 t3 t4 B1))
  obtain ⟨k0, k1, kB⟩ := end_two (chain2 hB B2) (show w.heap.size ≤ w.heap.size + 1 + 1 by omega) hy1 (.bool (decide (sgn b (m + n) < 0))) (.slice ar lr cr)
  have n4 := n3.box2 hy1 (by decide) (.bool (decide (sgn b (m + n) < 0))) (.slice ar lr cr)
  have HK := hid (And.intro k0 k1)
  clear k0 k1
  go_wp2
  exact bodyPost_ret (v := .agg #[.bool (decide (sgn b (m + n) < 0)), .slice ar lr cr]) (by simp [results, Tryz.results64, go_sem, HK.out.1, HK.out.2]) rfl ⟨_, rfl, ⟨ar, lr, cr, rfl, n4⟩, kB⟩
set_option maxHeartbeats 2000000 in
theorem sadd_other (w : World) (aa ab : Option Addr) (la ca lb cb m n K K' : Nat) (b b' : Bool) (r : Int) (hr1 : n ≤ m → sgn b (m - n) = r) (hr2 : ¬ n ≤ m → sgn b' (n - m) = r) (hbb : b ≠ b') (hK : K < 1000000000) (hK' : K' < 1000000000) (na0 : RefIs w (.agg #[.slice aa la ca]) m K) (nb0 : RefIs w (.agg #[.slice ab lb cb]) n K') :
    Calls Tryz.prog 64 #[.agg #[.bool b, .slice aa la ca], .agg #[.bool b', .slice ab lb cb]] w fun e w' => ∃ v, e = .returned v ∧ RNumIs w' v r (max K K' + 1) ∧ Below w.heap.size w w' := by
  have hx := boxed3_first w (Obj.cells #[.bool b, .slice aa la ca] 72) (Obj.cells #[.bool b', .slice ab lb cb] 72) (Obj.cells #[.bool false, .slice none 0 0] 72)
  have hz := boxed3_second w (Obj.cells #[.bool b, .slice aa la ca] 72) (Obj.cells #[.bool b', .slice ab lb cb] 72) (Obj.cells #[.bool false, .slice none 0 0] 72)
  have hy := boxed3_third w (Obj.cells #[.bool b, .slice aa la ca] 72) (Obj.cells #[.bool b', .slice ab lb cb] 72) (Obj.cells #[.bool false, .slice none 0 0] 72)
  have hB := boxed3 (Below.refl w.heap.size w) (Obj.cells #[.bool b, .slice aa la ca] 72) (Obj.cells #[.bool b', .slice ab lb cb] 72) (Obj.cells #[.bool false, .slice none 0 0] 72)
  have hbe : (b == b') = false := by simpa using hbb
  have HR := hid (And.intro hr1 hr2)
  clear hr1 hr2
  go_enter Tryz.func64, Tryz.ntmps64
  go_wp2_with fail
  generalize ((w.alloc (Obj.cells #[.bool b, .slice aa la ca] 72)).alloc (Obj.cells #[.bool b', .slice ab lb cb] 72)).alloc (Obj.cells #[.bool false, .slice none 0 0] 72) = W at *
  have na := na0.below hB
  have nb := nb0.below hB
  refine (rcmp_any W _ _ _ _ _ _ (by omega) (by omega) na nb).mono ?_
  rintro e w0 ⟨rfl, hb0⟩
  have hx0 := box_below hb0 hx (lt_of_block hx)
  have hz0 := box_below hb0 hz (lt_of_block hz)
  have hy0 := box_below hb0 hy (lt_of_block hy)
  have na := na.below hb0
  have nb := nb.below hb0
  have c0 := chain2 hB hb0
  have t1 := two_cell1 hx0
  have t3 := two_cell1 hz0
  clear hx hz hy hB hb0
  by_cases hmn : n ≤ m
  · have HS := hid (HR.out.1 hmn)
    have hc : ¬ cmpI m n < 0 := by unfold cmpI; (repeat' split) <;> omega
    generalize cmpI m n = q at *
    clear hmn
    go_wp2_with fail
    refine (rsub_both _ _ _ _ _ _ _ _ _ _ _ (by omega) (by omega) na nb).mono ?_
    rintro e w1 ⟨ar, lr, cr, rfl, n1, hb1⟩
    have hx3 := below_alloc' hb1 (Nat.le_refl _) (Obj.cells #[.slice ar lr cr] 70)
    have c1 := chain2 c0 hx3
    have hx1 := box_below hx3 hx0 (lt_of_block hx0)
    have hy1 := box_below hx3 hy0 (lt_of_block hy0)
    have n1 := n1.below ((Below.refl _ _).alloc (Nat.le_refl _) (Obj.cells #[.slice ar lr cr] 70))
    have t2 := two_cell0 hx1
    clear hx3 hb1 hx0 hz0 hy0 hx1 t1 t3
    go_wp2_with fail
    generalize w1.alloc (Obj.cells #[.slice ar lr cr] 70) = W1 at *
    refine (smake_any _ _ _ _ _ n1).mono ?_
    rintro e w2 ⟨v2, rfl, n2, hb2⟩
    obtain ⟨aq, lq, cq, rfl, n3⟩ := n2
    have hy2 := box_below hb2 hy1 (lt_of_block hy1)
    have u2 := two_cell0 hy2
    have u3 := two_cell1 hy2
    have v2 := two_free (k := 0) hy2
    have v3 := two_free (k := 1) hy2
    obtain ⟨k0, k1, kB⟩ := end_two (chain2 c1 hb2) (show w.heap.size ≤ w.heap.size + 1 + 1 by omega) hy2 (.bool (decide (sgn b (m - n) < 0))) (.slice aq lq cq)
    have n4 := n3.box2 hy2 (by decide) (.bool (decide (sgn b (m - n) < 0))) (.slice aq lq cq)
    have HK := hid (And.intro k0 k1)
    clear k0 k1
    go_wp2
    refine bodyPost_ret (v := .agg #[.bool (decide (sgn b (m - n) < 0)), .slice aq lq cq]) (by simp [results, Tryz.results64, go_sem, HK.out.1, HK.out.2]) rfl ⟨_, rfl, ?_, kB⟩
    rw [← HS.out]
    exact ⟨aq, lq, cq, rfl, n4.mono (by omega)⟩
  · have HS := hid (HR.out.2 hmn)
    have hc : cmpI m n < 0 := by unfold cmpI; (repeat' split) <;> omega
    generalize cmpI m n = q at *
    clear hmn
    go_wp2_with fail
    refine (rsub_both _ _ _ _ _ _ _ _ _ _ _ (by omega) (by omega) nb na).mono ?_
    rintro e w1 ⟨ar, lr, cr, rfl, n1, hb1⟩
    have hx3 := below_alloc' hb1 (Nat.le_refl _) (Obj.cells #[.slice ar lr cr] 70)
    have c1 := chain2 c0 hx3
    have hz1 := box_below hx3 hz0 (lt_of_block hz0)
    have hy1 := box_below hx3 hy0 (lt_of_block hy0)
    have n1 := n1.below ((Below.refl _ _).alloc (Nat.le_refl _) (Obj.cells #[.slice ar lr cr] 70))
    have t2 := two_cell0 hz1
    clear hx3 hb1 hx0 hz0 hy0 hz1 t1 t3
    go_wp2_with fail
    generalize w1.alloc (Obj.cells #[.slice ar lr cr] 70) = W1 at *
    refine (smake_any _ _ _ _ _ n1).mono ?_
    rintro e w2 ⟨v2, rfl, n2, hb2⟩
    obtain ⟨aq, lq, cq, rfl, n3⟩ := n2
    have hy2 := box_below hb2 hy1 (lt_of_block hy1)
    have u2 := two_cell0 hy2
    have u3 := two_cell1 hy2
    have v2 := two_free (k := 0) hy2
    have v3 := two_free (k := 1) hy2
    obtain ⟨k0, k1, kB⟩ := end_two (chain2 c1 hb2) (show w.heap.size ≤ w.heap.size + 1 + 1 by omega) hy2 (.bool (decide (sgn b' (n - m) < 0))) (.slice aq lq cq)
    have n4 := n3.box2 hy2 (by decide) (.bool (decide (sgn b' (n - m) < 0))) (.slice aq lq cq)
    have HK := hid (And.intro k0 k1)
    clear k0 k1
    go_wp2
    refine bodyPost_ret (v := .agg #[.bool (decide (sgn b' (n - m) < 0)), .slice aq lq cq]) (by simp [results, Tryz.results64, go_sem, HK.out.1, HK.out.2]) rfl ⟨_, rfl, ?_, kB⟩
    rw [← HS.out]
    exact ⟨aq, lq, cq, rfl, n4.mono (by omega)⟩
/-- The document's Add. -/
theorem sadd_any (w : World) (a b : Value) (x y : Int) (K K' : Nat) (hK : K < 1000000000) (hK' : K' < 1000000000) (ha : RNumIs w a x K) (hb : RNumIs w b y K') :
    Calls Tryz.prog 64 #[a, b] w fun e w' => ∃ v, e = .returned v ∧ RNumIs w' v (x + y) (max K K' + 1) ∧ Below w.heap.size w w' := by
  obtain ⟨aa, la, ca, rfl, na⟩ := ha
  obtain ⟨ab, lb, cb, rfl, nb⟩ := hb
  by_cases h : decide (x < 0) = decide (y < 0)
  · have e := sgn_add_same h
    rw [← h, ← e]
    exact sadd_same w aa ab la ca lb cb _ _ K K' _ hK hK' na nb
  · exact sadd_other w aa ab la ca lb cb _ _ K K' _ _ _ (fun hl => sgn_add_more h hl) (fun hl => sgn_add_less h (by omega)) h hK hK' na nb
set_option maxHeartbeats 2000000 in
theorem smul_walk (w : World) (aa ab : Option Addr) (la ca lb cb m n K K' : Nat) (b b' : Bool) (hK : K < 400000000) (hK' : K' < 400000000) (na0 : RefIs w (.agg #[.slice aa la ca]) m K) (nb0 : RefIs w (.agg #[.slice ab lb cb]) n K') :
    Calls Tryz.prog 58 #[.agg #[.bool b, .slice aa la ca], .agg #[.bool b', .slice ab lb cb]] w fun e w' => ∃ v, e = .returned v ∧ RNumIs w' v (sgn (b != b') (m * n)) (K + K') ∧ Below w.heap.size w w' := by
  have hx := boxed3_first w (Obj.cells #[.bool b, .slice aa la ca] 72) (Obj.cells #[.bool b', .slice ab lb cb] 72) (Obj.cells #[.bool false, .slice none 0 0] 72)
  have hz := boxed3_second w (Obj.cells #[.bool b, .slice aa la ca] 72) (Obj.cells #[.bool b', .slice ab lb cb] 72) (Obj.cells #[.bool false, .slice none 0 0] 72)
  have hy := boxed3_third w (Obj.cells #[.bool b, .slice aa la ca] 72) (Obj.cells #[.bool b', .slice ab lb cb] 72) (Obj.cells #[.bool false, .slice none 0 0] 72)
  have hB := boxed3 (Below.refl w.heap.size w) (Obj.cells #[.bool b, .slice aa la ca] 72) (Obj.cells #[.bool b', .slice ab lb cb] 72) (Obj.cells #[.bool false, .slice none 0 0] 72)
  go_enter Tryz.func58, Tryz.ntmps58
  go_wp2_with fail
  generalize ((w.alloc (Obj.cells #[.bool b, .slice aa la ca] 72)).alloc (Obj.cells #[.bool b', .slice ab lb cb] 72)).alloc (Obj.cells #[.bool false, .slice none 0 0] 72) = W at *
  have t1 := two_cell0 hx
  have t2 := two_cell1 hx
  have t3 := two_cell0 hz
  have t4 := two_cell1 hz
  have B0 : Below W.heap.size W W.drew := (Below.refl _ _).drew
  have na := na0.below hB
  have nb := nb0.below hB
  have HY := hid hy
  clear hx hy hz
  go_region_held3 (fun w' => w'.cell? ⟨w.heap.size, 0, none⟩ = some (.bool b) ∧ w'.cell? ⟨w.heap.size, 1, none⟩ = some (.slice aa la ca) ∧ w'.cell? ⟨w.heap.size + 1, 0, none⟩ = some (.bool b') ∧ w'.cell? ⟨w.heap.size + 1, 1, none⟩ = some (.slice ab lb cb)) ((first | exact ⟨t1, t2, t3, t4⟩ | exact K1 | exact K2 | exact keepN2 K2 (by omega) (by omega) _ _)) (first
    | (have gk := B1; go_at_call 63; refine (smake_any _ (b != b') _ _ _ n1).mono ?_; rintro e w2 ⟨v2, rfl, n2, hb2⟩; have B2 := chain2 B1 hb2; have K2 := keepN t1 t2 t3 t4 B2; obtain ⟨ar, lr, cr, rfl, n3⟩ := n2; have hy1 := box_below B2 HY.out (lt_of_block HY.out); have u2 := two_cell0 hy1; have u3 := two_cell1 hy1; have v2 := two_free (k := 0) hy1; have v3 := two_free (k := 1) hy1)
    | (have gk := B0; go_at_call 82; refine (rmul_any _ _ _ _ _ _ _ (by omega) (by omega) (na.below B0) (nb.below B0)).mono ?_; rintro e w1 ⟨v1, rfl, n1, hb1⟩; have B1 := chain2 B0 hb1; have K1 := keepN t1 t2 t3 t4 B1))
  obtain ⟨k0, k1, kB⟩ := end_two (chain2 hB B2) (show w.heap.size ≤ w.heap.size + 1 + 1 by omega) hy1 (.bool (decide (sgn (b != b') (m * n) < 0))) (.slice ar lr cr)
  have n4 := n3.box2 hy1 (by decide) (.bool (decide (sgn (b != b') (m * n) < 0))) (.slice ar lr cr)
  have HK := hid (And.intro k0 k1)
  clear k0 k1
  go_wp2
  exact bodyPost_ret (v := .agg #[.bool (decide (sgn (b != b') (m * n) < 0)), .slice ar lr cr]) (by simp [results, Tryz.results58, go_sem, HK.out.1, HK.out.2]) rfl ⟨_, rfl, ⟨ar, lr, cr, rfl, n4⟩, kB⟩
/-- Mul: the product. -/
theorem smul_any (w : World) (a b : Value) (x y : Int) (K K' : Nat) (hK : K < 400000000) (hK' : K' < 400000000) (ha : RNumIs w a x K) (hb : RNumIs w b y K') :
    Calls Tryz.prog 58 #[a, b] w fun e w' => ∃ v, e = .returned v ∧ RNumIs w' v (x * y) (K + K') ∧ Below w.heap.size w w' := by
  obtain ⟨aa, la, ca, rfl, na⟩ := ha
  obtain ⟨ab, lb, cb, rfl, nb⟩ := hb
  rw [← sgn_mul]
  exact smul_walk w aa ab la ca lb cb _ _ K K' _ _ hK hK' na nb
set_option maxHeartbeats 800000 in
/-- The document's Sign. -/
theorem ssign_any (w : World) (a : Value) (z : Int) (K : Nat) (hK : K ≤ 1000000000) (ha : RNumIs w a z K) :
    Calls Tryz.prog 56 #[a] w fun e w' => e = .returned (.int .i64 (signZ z)) ∧ Below w.heap.size w w' := by
  obtain ⟨ao, l, c, rfl, na⟩ := ha
  have hl := (ref_len na).1
  have hB : ∀ o : Obj, Below w.heap.size w (w.alloc o) := fun o => (Below.refl _ _).alloc (Nat.le_refl _) _
  rcases (show (z < 0) ∨ (¬ z < 0 ∧ l = 0 ∧ z = 0) ∨ (¬ z < 0 ∧ 0 < l ∧ 0 < z) by omega) with h | ⟨h, h1, h2⟩ | ⟨h, h1, h2⟩
  · rw [show decide (z < 0) = true by simp [h]]
    have HS := hid (show signZ z = -1 by simp [signZ, h])
    go_enter Tryz.func56, Tryz.ntmps56
    go_wp2
    go_ret
    exact ⟨by rw [HS.out]; rfl, hB _⟩
  · rw [show decide (z < 0) = false by simp; omega]
    have HS := hid (show signZ z = 0 by simp [signZ, h2])
    subst h1
    clear hl h2 h na
    go_enter Tryz.func56, Tryz.ntmps56
    go_wp2
    go_ret
    exact ⟨by rw [HS.out]; rfl, hB _⟩
  · rw [show decide (z < 0) = false by simp; omega]
    have HS := hid (show signZ z = 1 by unfold signZ; (repeat' split) <;> omega)
    clear hl h2 h na
    go_enter Tryz.func56, Tryz.ntmps56
    go_wp2
    go_ret
    exact ⟨by rw [HS.out]; rfl, hB _⟩
set_option maxHeartbeats 800000 in
/-- The document's Neg. -/
theorem sneg_any (w : World) (a : Value) (z : Int) (K : Nat) (hK : K < 1000000000) (ha : RNumIs w a z K) :
    Calls Tryz.prog 79 #[a] w fun e w' => ∃ v, e = .returned v ∧ RNumIs w' v (-z) K ∧ Below w.heap.size w w' := by
  obtain ⟨ao, l, c, rfl, na0⟩ := ha
  have HZ := hid (sgn_not z)
  generalize decide (z < 0) = b at *
  have hy := boxed2_second w (Obj.cells #[.bool b, .slice ao l c] 72) (Obj.cells #[.bool false, .slice none 0 0] 72)
  have hB := boxed2 (Below.refl w.heap.size w) (Obj.cells #[.bool b, .slice ao l c] 72) (Obj.cells #[.bool false, .slice none 0 0] 72)
  go_enter Tryz.func79, Tryz.ntmps79
  go_wp2_with fail
  generalize (w.alloc (Obj.cells #[.bool b, .slice ao l c] 72)).alloc (Obj.cells #[.bool false, .slice none 0 0] 72) = W at *
  refine (smake_any W (!b) _ _ _ (na0.below hB)).mono ?_
  rintro e w1 ⟨v, rfl, n1, hb1⟩
  obtain ⟨ar, lr, cr, rfl, n2⟩ := n1
  have hy1 := box_below hb1 hy (lt_of_block hy)
  have u2 := two_cell0 hy1
  have u3 := two_cell1 hy1
  have v2 := two_free (k := 0) hy1
  have v3 := two_free (k := 1) hy1
  obtain ⟨k0, k1, kB⟩ := end_two (chain2 hB hb1) (Nat.le_succ _) hy1 (.bool (decide (sgn (!b) z.natAbs < 0))) (.slice ar lr cr)
  have n4 := n2.box2 hy1 (by decide) (.bool (decide (sgn (!b) z.natAbs < 0))) (.slice ar lr cr)
  have HK := hid (And.intro k0 k1)
  clear k0 k1 hy
  go_wp2
  refine bodyPost_ret (v := .agg #[.bool (decide (sgn (!b) z.natAbs < 0)), .slice ar lr cr]) (by simp [results, Tryz.results79, go_sem, HK.out.1, HK.out.2]) rfl ⟨_, rfl, ?_, kB⟩
  rw [HZ.out] at n4 ⊢
  exact ⟨ar, lr, cr, rfl, n4⟩
end Go.Proofs.YtgojlegknlalpaaGreatDoor
/- Whole numbers: Make. -/
namespace Go.Proofs.YtgojlegknlalpaaGreatDoor
open Go.RowKit
set_option linter.unusedVariables false
set_option maxRecDepth 100000
set_option linter.unusedSimpArgs false
attribute [local go_sem ↓] Go.wp_at_zero Go.wp_at_succ
set_option maxHeartbeats 800000 in
theorem nmake_any (w : World) (b : Bool) (a : Value) (m K : Nat) (hK : K < 1000000000) (ha : NatIs w a m K) :
    Calls Tryz.prog 99 #[.bool b, a] w fun e w' => ∃ v, e = .returned v ∧ NumIs w' v (sgn b m) (K + 1) ∧ Below w.heap.size w w' := by
  obtain ⟨ao, l, c, rfl⟩ := ha.form
  have hx := boxed2_first w (Obj.cells #[.slice ao l c] 55) (Obj.cells #[.slice none 0 0, .bool false] 57)
  have hy := boxed2_second w (Obj.cells #[.slice ao l c] 55) (Obj.cells #[.slice none 0 0, .bool false] 57)
  have hB := boxed2 (Below.refl w.heap.size w) (Obj.cells #[.slice ao l c] 55) (Obj.cells #[.slice none 0 0, .bool false] 57)
  go_enter Tryz.func99, Tryz.ntmps99
  go_wp2_with fail
  generalize (w.alloc (Obj.cells #[.slice ao l c] 55)).alloc (Obj.cells #[.slice none 0 0, .bool false] 57) = W at *
  have na := ha.below hB
  have HY := hid hy
  have t1 := cell_of_one hx
  clear hx hy
  refine (ncopied_any _ _ _ _ (by omega) na).mono ?_
  rintro e w1 ⟨v1, rfl, n1, hb1⟩
  have t2 := kc hb1 t1
  go_wp2_with fail
  refine (signed_any _ _ _ _ _ (by omega) n1).mono ?_
  rintro e w2 ⟨v2, rfl, n2, hb2⟩
  have B2 := chain2 hb1 hb2
  obtain ⟨ar, lr, cr, rfl, n3⟩ := n2
  have hy1 := box_below B2 HY.out (lt_of_block HY.out)
  have u2 := two_cell0 hy1
  have u3 := two_cell1 hy1
  have v2 := two_free (k := 0) hy1
  have v3 := two_free (k := 1) hy1
  obtain ⟨k0, k1, kB⟩ := end_two (chain2 hB B2) (Nat.le_succ _) hy1 (.slice ar lr cr) (.bool (decide (sgn b m < 0)))
  have n4 := n3.box2 hy1 (by decide) (.slice ar lr cr) (.bool (decide (sgn b m < 0)))
  have HK := hid (And.intro k0 k1)
  clear k0 k1
  go_wp2
  exact bodyPost_ret (v := .agg #[.slice ar lr cr, .bool (decide (sgn b m < 0))]) (by simp [results, Tryz.results99, go_sem, HK.out.1, HK.out.2]) rfl ⟨_, rfl, ⟨ar, lr, cr, rfl, n4⟩, kB⟩
end Go.Proofs.YtgojlegknlalpaaGreatDoor
/- Whole numbers: Cmp. -/
namespace Go.Proofs.YtgojlegknlalpaaGreatDoor
open Go.RowKit
set_option linter.unusedVariables false
set_option maxRecDepth 100000
set_option linter.unusedSimpArgs false
attribute [local go_sem ↓] Go.wp_at_zero Go.wp_at_succ

set_option maxHeartbeats 1000000 in
theorem ncmp_other (w : World) (aa ab : Option Addr) (la ca lb cb K K' : Nat) (x y : Int) (hbb : decide (x < 0) ≠ decide (y < 0)) (hK : K < 1000000000) (hK' : K' < 1000000000) (na0 : NumIs w (.agg #[.slice aa la ca, .bool (decide (x < 0))]) x K) (nb0 : NumIs w (.agg #[.slice ab lb cb, .bool (decide (y < 0))]) y K') :
    Calls Tryz.prog 120 #[.agg #[.slice aa la ca, .bool (decide (x < 0))], .agg #[.slice ab lb cb, .bool (decide (y < 0))]] w fun e w' => e = .returned (.int .i64 (Lib.compareInt (signZ x) (signZ y))) ∧ Below w.heap.size w w' := by
  have hbe : (decide (x < 0) == decide (y < 0)) = false := by simpa using hbb
  generalize hb1 : decide (x < 0) = b at *
  generalize hb2 : decide (y < 0) = b' at *
  have HB := hid (And.intro hb1 hb2)
  clear hb1 hb2
  have hx := boxed2_first w (Obj.cells #[.slice aa la ca, .bool b] 57) (Obj.cells #[.slice ab lb cb, .bool b'] 57)
  have hz := boxed2_second w (Obj.cells #[.slice aa la ca, .bool b] 57) (Obj.cells #[.slice ab lb cb, .bool b'] 57)
  have hB := boxed2 (Below.refl w.heap.size w) (Obj.cells #[.slice aa la ca, .bool b] 57) (Obj.cells #[.slice ab lb cb, .bool b'] 57)
  go_enter Tryz.func120, Tryz.ntmps120
  go_wp2_with fail
  generalize (w.alloc (Obj.cells #[.slice aa la ca, .bool b] 57)).alloc (Obj.cells #[.slice ab lb cb, .bool b'] 57) = W at *
  have t1 := two_cell0 hx
  have t2 := two_cell1 hx
  have t3 := two_cell0 hz
  have t4 := two_cell1 hz
  have B0 : Below W.heap.size W W.drew := (Below.refl _ _).drew
  have na := na0.below hB
  have nb := nb0.below hB
  clear hx hz
  go_region_held3 (fun w' => w'.cell? ⟨w.heap.size, 0, none⟩ = some (.slice aa la ca) ∧ w'.cell? ⟨w.heap.size, 1, none⟩ = some (.bool b) ∧ w'.cell? ⟨w.heap.size + 1, 0, none⟩ = some (.slice ab lb cb) ∧ w'.cell? ⟨w.heap.size + 1, 1, none⟩ = some (.bool b')) ((first | exact ⟨t1, t2, t3, t4⟩ | exact K1 | exact K2)) (first
    | (have gk := B2; go_at_call 143; refine (Tryz.cmp_Compare_int _ _ _).mono ?_; rintro e w3 ⟨rfl, rfl⟩)
    | (have gk := B1; go_at_call 46; refine (nsign_any _ _ _ _ (by omega) (nb.below B1)).mono ?_; rintro e w2 ⟨rfl, hb2⟩; have B2 := chain2 B1 hb2; have K2 := keepN t1 t2 t3 t4 B2)
    | (have gk := B0; go_at_call 46; refine (nsign_any _ _ _ _ (by omega) (na.below B0)).mono ?_; rintro e w1 ⟨rfl, hb1⟩; have B1 := chain2 B0 hb1; have K1 := keepN t1 t2 t3 t4 B1))
  go_wp2
  go_ret
  exact ⟨rfl, chain2 hB B2⟩
set_option maxHeartbeats 800000 in
theorem ncmp_below (w : World) (aa ab : Option Addr) (la ca lb cb m n K K' : Nat) (na0 : NatIs w (.agg #[.slice aa la ca]) m K) (nb0 : NatIs w (.agg #[.slice ab lb cb]) n K') :
    Calls Tryz.prog 120 #[.agg #[.slice aa la ca, .bool true], .agg #[.slice ab lb cb, .bool true]] w fun e w' => e = .returned (.int .i64 (cmpI n m)) ∧ Below w.heap.size w w' := by
  have hB := boxed2 (Below.refl w.heap.size w) (Obj.cells #[.slice aa la ca, .bool true] 57) (Obj.cells #[.slice ab lb cb, .bool true] 57)
  go_enter Tryz.func120, Tryz.ntmps120
  go_wp2_with fail
  refine (cmp_any _ _ _ _ _ _ _ (nb0.below hB) (na0.below hB)).mono ?_
  rintro e w1 ⟨rfl, hb1⟩
  have kB := chain2 hB hb1
  go_wp2
  go_ret
  exact ⟨rfl, kB⟩
set_option maxHeartbeats 800000 in
theorem ncmp_above (w : World) (aa ab : Option Addr) (la ca lb cb m n K K' : Nat) (na0 : NatIs w (.agg #[.slice aa la ca]) m K) (nb0 : NatIs w (.agg #[.slice ab lb cb]) n K') :
    Calls Tryz.prog 120 #[.agg #[.slice aa la ca, .bool false], .agg #[.slice ab lb cb, .bool false]] w fun e w' => e = .returned (.int .i64 (cmpI m n)) ∧ Below w.heap.size w w' := by
  have hB := boxed2 (Below.refl w.heap.size w) (Obj.cells #[.slice aa la ca, .bool false] 57) (Obj.cells #[.slice ab lb cb, .bool false] 57)
  go_enter Tryz.func120, Tryz.ntmps120
  go_wp2_with fail
  refine (cmp_any _ _ _ _ _ _ _ (na0.below hB) (nb0.below hB)).mono ?_
  rintro e w1 ⟨rfl, hb1⟩
  have kB := chain2 hB hb1
  go_wp2
  go_ret
  exact ⟨rfl, kB⟩
theorem cmpZ_signs {x y : Int} (h : decide (x < 0) ≠ decide (y < 0)) : Lib.compareInt (signZ x) (signZ y) = cmpZ x y := by
  unfold Lib.compareInt signZ cmpZ
  by_cases hx : x < 0 <;> by_cases hy : y < 0 <;> simp [hx, hy] at h ⊢ <;> (repeat' split) <;> omega
theorem cmpZ_below {x y : Int} (hx : x < 0) (hy : y < 0) : cmpI y.natAbs x.natAbs = cmpZ x y := by
  unfold cmpI cmpZ; (repeat' split) <;> omega
theorem cmpZ_above {x y : Int} (hx : ¬ x < 0) (hy : ¬ y < 0) : cmpI x.natAbs y.natAbs = cmpZ x y := by
  unfold cmpI cmpZ; (repeat' split) <;> omega
/-- Cmp. -/
theorem ncmp_any (w : World) (a b : Value) (x y : Int) (K K' : Nat) (hK : K < 1000000000) (hK' : K' < 1000000000) (ha : NumIs w a x K) (hb : NumIs w b y K') :
    Calls Tryz.prog 120 #[a, b] w fun e w' => e = .returned (.int .i64 (cmpZ x y)) ∧ Below w.heap.size w w' := by
  obtain ⟨aa, la, ca, rfl, na⟩ := ha
  obtain ⟨ab, lb, cb, rfl, nb⟩ := hb
  by_cases h : decide (x < 0) = decide (y < 0)
  · by_cases hx : x < 0
    · have hy : y < 0 := by by_cases hy : y < 0 <;> simp [hx, hy] at h ⊢
      rw [show decide (x < 0) = true by simp [hx], show decide (y < 0) = true by simp [hy], ← cmpZ_below hx hy]
      exact ncmp_below w aa ab la ca lb cb _ _ K K' na nb
    · have hy : ¬ y < 0 := by intro hy; simp [hx, hy] at h
      rw [show decide (x < 0) = false by simp; omega, show decide (y < 0) = false by simp; omega, ← cmpZ_above hx hy]
      exact ncmp_above w aa ab la ca lb cb _ _ K K' na nb
  · rw [← cmpZ_signs h]
    exact ncmp_other w aa ab la ca lb cb K K' x y h hK hK' ⟨aa, la, ca, rfl, na⟩ ⟨ab, lb, cb, rfl, nb⟩
end Go.Proofs.YtgojlegknlalpaaGreatDoor
