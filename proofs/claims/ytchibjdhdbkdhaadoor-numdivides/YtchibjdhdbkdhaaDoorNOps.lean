/- Whole numbers: what signed, copied, Neg, Abs, Sign answer. -/
import Derived.Test.YtchibjdhdbkdhaaDoorNBase
import Derived.Test.YtchibjdhdbkdhaaDoorAdd
import Derived.Test.YtchibjdhdbkdhaaDoorBits
namespace Go.Proofs.YtchibjdhdbkdhaaDoor
open Go.RowKit
set_option linter.unusedVariables false
set_option maxRecDepth 100000
set_option linter.unusedSimpArgs false
attribute [local go_sem ↓] Go.wp_at_zero Go.wp_at_succ

theorem bin_pos {m b : Nat} (h : Bin m b) : (0 < b ↔ 0 < m) := by
  obtain ⟨h1, h2, h3⟩ := h
  constructor
  · intro hb
    rcases Nat.eq_zero_or_pos m with e | e
    · have := h3 e; omega
    · exact e
  · intro hm
    rcases Nat.eq_zero_or_pos b with e | e
    · rw [e] at h1; simp at h1; omega
    · exact e
set_option maxHeartbeats 400000 in
theorem signed_yes (w : World) (ao : Option Addr) (l c m K : Nat) (hK : K ≤ 1000000000) (ha : NatIs w (.agg #[.slice ao l c]) m K) :
    Calls Tryd.prog 32 #[.bool true, .agg #[.slice ao l c]] w fun e w' => e = .returned (.agg #[.slice ao l c, .bool (decide (0 < m))]) ∧ Below w.heap.size w w' := by
  obtain ⟨b, hb⟩ : ∃ b, Bin m b := ⟨_, bin_ex m⟩
  have hp := hid (bin_pos hb)
  have hb0 : Below w.heap.size w (w.alloc (Obj.cells #[.slice ao l c] 24)) := (Below.refl _ _).alloc (Nat.le_refl _) _
  go_enter Tryd.func32, Tryd.ntmps32
  go_wp2_with fail
  have hx : ((w.alloc (Obj.cells #[.slice ao l c] 24)).alloc (Obj.cells #[.slice none 0 0, .bool false] 26)).heap[w.heap.size]? = some (Obj.cells #[.slice ao l c] 24) := boxed2_first _ _ _
  have hy : ((w.alloc (Obj.cells #[.slice ao l c] 24)).alloc (Obj.cells #[.slice none 0 0, .bool false] 26)).heap[w.heap.size + 1]? = some (Obj.cells #[.slice none 0 0, .bool false] 26) := boxed2_second _ _ _
  have hB := boxed2 (Below.refl w.heap.size w) (Obj.cells #[.slice ao l c] 24) (Obj.cells #[.slice none 0 0, .bool false] 26)
  generalize (w.alloc (Obj.cells #[.slice ao l c] 24)).alloc (Obj.cells #[.slice none 0 0, .bool false] 26) = W at *
  have t1 := cell_of_one hx
  have B0 : Below W.heap.size W W.drew := (Below.refl _ _).drew
  have na := ha.below hB
  have HY := hid hy
  have t2 := two_cell0 hy
  have t3 := two_cell1 hy
  have f2 := two_free (k := 0) hy
  have f3 := two_free (k := 1) hy
  clear hx hy hb0
  go_region_held3 (fun w' => w'.cell? ⟨w.heap.size, 0, none⟩ = some (.slice ao l c)) ((first | exact t1 | exact K1 | exact two_keep0 K1 (Nat.ne_of_lt (Nat.lt_succ_self _)) _ _)) (first
    | (go_at_call 27; refine (bits_any _ _ _ _ _ hK (na.below B0) hb).mono ?_; rintro e w1 ⟨rfl, hb1⟩; have K1 := (hb1.cell (World.block_lt_of_cell? W _ t1)).trans t1; have hy1 := box_below (chain2 B0 hb1) HY.out (lt_of_block HY.out); have u2 := two_cell0 hy1; have u3 := two_cell1 hy1; have v2 := two_free (k := 0) hy1; have v3 := two_free (k := 1) hy1))
  obtain ⟨k0, k1, kB⟩ := end_two (chain2 hB (chain2 B0 hb1)) (Nat.le_succ _) hy1 (.slice ao l c) (.bool (decide (0 < b)))
  go_wp2
  have HK := hid (And.intro k0 k1)
  clear k0 k1
  refine bodyPost_ret (v := .agg #[.slice ao l c, .bool (decide (0 < b))]) (by simp [results, Tryd.results32, go_sem, HK.out.1, HK.out.2]) rfl ⟨by rw [show decide (0 < b) = decide (0 < m) from decide_eq_decide.2 hp.out], kB⟩
set_option maxHeartbeats 400000 in
theorem signed_no (w : World) (ao : Option Addr) (l c : Nat) :
    Calls Tryd.prog 32 #[.bool false, .agg #[.slice ao l c]] w fun e w' => e = .returned (.agg #[.slice ao l c, .bool false]) ∧ Below w.heap.size w w' := by
  go_enter Tryd.func32, Tryd.ntmps32
  go_wp2_with fail
  have hx : ((w.alloc (Obj.cells #[.slice ao l c] 24)).alloc (Obj.cells #[.slice none 0 0, .bool false] 26)).heap[w.heap.size]? = some (Obj.cells #[.slice ao l c] 24) := boxed2_first _ _ _
  have hy : ((w.alloc (Obj.cells #[.slice ao l c] 24)).alloc (Obj.cells #[.slice none 0 0, .bool false] 26)).heap[w.heap.size + 1]? = some (Obj.cells #[.slice none 0 0, .bool false] 26) := boxed2_second _ _ _
  have hB := boxed2 (Below.refl w.heap.size w) (Obj.cells #[.slice ao l c] 24) (Obj.cells #[.slice none 0 0, .bool false] 26)
  generalize (w.alloc (Obj.cells #[.slice ao l c] 24)).alloc (Obj.cells #[.slice none 0 0, .bool false] 26) = W at *
  have t1 := cell_of_one hx
  have t2 := two_cell0 hy
  have t3 := two_cell1 hy
  have f2 := two_free (k := 0) hy
  have f3 := two_free (k := 1) hy
  obtain ⟨k0, k1, kB⟩ := end_two hB (Nat.le_succ _) hy (.slice ao l c) (.bool false)
  have HK := hid (show ((W.setCell ⟨w.heap.size + 1, 0, none⟩ (.slice ao l c)).setCell ⟨w.heap.size + 1, 1, none⟩ (.bool false)).drew.cell? ⟨w.heap.size + 1, 0, none⟩ = some (.slice ao l c) ∧ ((W.setCell ⟨w.heap.size + 1, 0, none⟩ (.slice ao l c)).setCell ⟨w.heap.size + 1, 1, none⟩ (.bool false)).drew.cell? ⟨w.heap.size + 1, 1, none⟩ = some (.bool false) from And.intro k0 k1)
  clear k0 k1 hx hy
  go_region
  go_wp2
  exact bodyPost_ret (v := .agg #[.slice ao l c, .bool false]) (by simp [results, Tryd.results32, go_sem, HK.out.1, HK.out.2]) rfl ⟨rfl, kB.drew⟩
/-- signed: the number with that sign; 0 has none. -/
theorem signed_any (w : World) (b : Bool) (a : Value) (m K : Nat) (hK : K ≤ 1000000000) (ha : NatIs w a m K) :
    Calls Tryd.prog 32 #[.bool b, a] w fun e w' => ∃ v, e = .returned v ∧ NumIs w' v (sgn b m) K ∧ Below w.heap.size w w' := by
  obtain ⟨ao, l, c, rfl⟩ := ha.form
  cases b
  · refine (signed_no w ao l c).mono ?_
    rintro e w' ⟨rfl, hw⟩
    exact ⟨_, rfl, ⟨ao, l, c, by rw [sgn_neg]; rfl, by rw [sgn_abs]; exact ha.below hw⟩, hw⟩
  · refine (signed_yes w ao l c m K hK ha).mono ?_
    rintro e w' ⟨rfl, hw⟩
    exact ⟨_, rfl, ⟨ao, l, c, by rw [sgn_neg]; rfl, by rw [sgn_abs]; exact ha.below hw⟩, hw⟩
set_option maxHeartbeats 400000 in
/-- copied: the same number. -/
theorem ncopied_any (w : World) (a : Value) (m K : Nat) (hK : K ≤ 1000000000) (ha : NatIs w a m K) :
    Calls Tryd.prog 33 #[a] w fun e w' => ∃ v, e = .returned v ∧ NatIs w' v m (K + 1) ∧ Below w.heap.size w w' := by
  obtain ⟨ao, l, c, rfl⟩ := ha.form
  have hy : ((w.alloc (Obj.cells #[.slice ao l c] 24)).alloc (Obj.cells #[.slice none 0 0] 24)).heap[w.heap.size + 1]? = some (Obj.cells #[.slice none 0 0] 24) := boxed2_second _ _ _
  have hB := boxed2 (Below.refl w.heap.size w) (Obj.cells #[.slice ao l c] 24) (Obj.cells #[.slice none 0 0] 24)
  go_enter Tryd.func33, Tryd.ntmps33
  go_wp2_with fail
  generalize (w.alloc (Obj.cells #[.slice ao l c] 24)).alloc (Obj.cells #[.slice none 0 0] 24) = W at *
  refine (add_any W _ _ m 0 K 0 hK (by omega) (ha.below hB) (nat_zero W)).mono ?_
  rintro e w1 ⟨v, rfl, nv, hb1⟩
  obtain ⟨ar, lr, cr, rfl⟩ := nv.form
  have hy1 := box_below hb1 hy (lt_of_block hy)
  have t1 := cell_of_one hy1
  have f1 := free_of_one hy1
  have k1 := cell_of_one (one_setCell (u := .slice ar lr cr) hy1)
  have HK := hid k1
  have n2 := (nv.box hy1 (by decide) (.slice ar lr cr)).mono (show max K 0 + 1 ≤ K + 1 by omega)
  have kB := (chain2 hB hb1).setCell (p := ⟨w.heap.size + 1, 0, none⟩) (Nat.le_succ _) (.slice ar lr cr)
  clear k1 hy hy1
  go_wp2
  exact bodyPost_ret (v := .agg #[.slice ar lr cr]) (by simp [results, Tryd.results33, go_sem, HK.out]) rfl ⟨_, rfl, n2, kB⟩
set_option maxHeartbeats 800000 in
/-- Neg: the number with the other sign. -/
theorem nneg_any (w : World) (a : Value) (z : Int) (K : Nat) (hK : K < 1000000000) (ha : NumIs w a z K) :
    Calls Tryd.prog 14 #[a] w fun e w' => ∃ v, e = .returned v ∧ NumIs w' v (-z) (K + 1) ∧ Below w.heap.size w w' := by
  obtain ⟨ao, l, c, rfl, na0⟩ := ha
  have HZ := hid (sgn_not z)
  generalize decide (z < 0) = b at *
  have hx : ((w.alloc (Obj.cells #[.slice ao l c, .bool b] 26)).alloc (Obj.cells #[.slice none 0 0, .bool false] 26)).heap[w.heap.size]? = some (Obj.cells #[.slice ao l c, .bool b] 26) := boxed2_first _ _ _
  have hy : ((w.alloc (Obj.cells #[.slice ao l c, .bool b] 26)).alloc (Obj.cells #[.slice none 0 0, .bool false] 26)).heap[w.heap.size + 1]? = some (Obj.cells #[.slice none 0 0, .bool false] 26) := boxed2_second _ _ _
  have hB := boxed2 (Below.refl w.heap.size w) (Obj.cells #[.slice ao l c, .bool b] 26) (Obj.cells #[.slice none 0 0, .bool false] 26)
  go_enter Tryd.func14, Tryd.ntmps14
  go_wp2_with fail
  generalize (w.alloc (Obj.cells #[.slice ao l c, .bool b] 26)).alloc (Obj.cells #[.slice none 0 0, .bool false] 26) = W at *
  have t1 := two_cell0 hx
  have t2 := two_cell1 hx
  have B0 : Below W.heap.size W W.drew := (Below.refl _ _).drew
  have na := na0.below hB
  have HY := hid hy
  clear hx hy
  go_region_held3 (fun w' => w'.cell? ⟨w.heap.size, 0, none⟩ = some (.slice ao l c) ∧ w'.cell? ⟨w.heap.size, 1, none⟩ = some (.bool b)) ((first | exact ⟨t1, t2⟩ | exact K1 | exact K2 | exact ⟨two_keep0 K2.1 (Nat.ne_of_lt (Nat.lt_succ_self _)) _ _, two_keep0 K2.2 (Nat.ne_of_lt (Nat.lt_succ_self _)) _ _⟩)) (first
    | (have gk := B1; go_at_call 32; refine (signed_any _ _ _ _ _ (by omega) n1).mono ?_; rintro e w2 ⟨v2, rfl, n2, hb2⟩; have B2 := chain2 B1 hb2; have K2 := And.intro (kc B2 t1) (kc B2 t2); obtain ⟨ar, lr, cr, rfl, n3⟩ := n2; have hy1 := box_below B2 HY.out (lt_of_block HY.out); have u2 := two_cell0 hy1; have u3 := two_cell1 hy1; have v2 := two_free (k := 0) hy1; have v3 := two_free (k := 1) hy1)
    | (have gk := B0; go_at_call 33; refine (ncopied_any _ _ _ _ (by omega) (na.below B0)).mono ?_; rintro e w1 ⟨v1, rfl, n1, hb1⟩; have B1 := chain2 B0 hb1; have K1 := And.intro (kc B1 t1) (kc B1 t2)))
  obtain ⟨k0, k1, kB⟩ := end_two (chain2 hB B2) (Nat.le_succ _) hy1 (.slice ar lr cr) (.bool (decide (sgn (!b) z.natAbs < 0)))
  have n4 := n3.box2 hy1 (by decide) (.slice ar lr cr) (.bool (decide (sgn (!b) z.natAbs < 0)))
  have HK := hid (And.intro k0 k1)
  clear k0 k1
  go_wp2
  refine bodyPost_ret (v := .agg #[.slice ar lr cr, .bool (decide (sgn (!b) z.natAbs < 0))]) (by simp [results, Tryd.results14, go_sem, HK.out.1, HK.out.2]) rfl ⟨_, rfl, ?_, kB⟩
  rw [HZ.out] at n4 ⊢
  exact ⟨ar, lr, cr, rfl, n4⟩
set_option maxHeartbeats 400000 in
/-- Sign. -/
theorem nsign_any (w : World) (a : Value) (z : Int) (K : Nat) (hK : K ≤ 1000000000) (ha : NumIs w a z K) :
    Calls Tryd.prog 12 #[a] w fun e w' => e = .returned (.int .i64 (signZ z)) ∧ Below w.heap.size w w' := by
  obtain ⟨ao, l, c, rfl, na0⟩ := ha
  obtain ⟨n, hn⟩ : ∃ n, Bin z.natAbs n := ⟨_, bin_ex _⟩
  have hp := bin_pos hn
  have hx := box_new w (Obj.cells #[.slice ao l c, .bool (decide (z < 0))] 26)
  have hB : Below w.heap.size w (w.alloc (Obj.cells #[.slice ao l c, .bool (decide (z < 0))] 26)) := (Below.refl _ _).alloc (Nat.le_refl _) _
  go_enter Tryd.func12, Tryd.ntmps12
  go_wp2_with fail
  generalize w.alloc (Obj.cells #[.slice ao l c, .bool (decide (z < 0))] 26) = W at *
  refine (bits_any W _ _ K n hK (na0.below hB) hn).mono ?_
  rintro e w1 ⟨rfl, hb1⟩
  have hx1 := box_below hb1 hx (lt_of_block hx)
  have t1 := two_cell1 hx1
  have kB := chain2 hB hb1
  clear hx hx1 hn
  rcases (show (n = 0 ∧ z = 0) ∨ (n ≠ 0 ∧ z < 0) ∨ (n ≠ 0 ∧ 0 < z) by omega) with ⟨h1, h2⟩ | ⟨h1, h2⟩ | ⟨h1, h2⟩
  · have HS := hid (show signZ z = 0 by simp [signZ, h2])
    subst h1
    clear h2 hp
    go_wp2
    go_ret
    exact ⟨by rw [HS.out]; rfl, kB⟩
  · have HS := hid (show signZ z = -1 by simp [signZ, h2])
    have h3 : ((n : Int) == 0) = false := by simp; omega
    rw [show decide (z < 0) = true by simp [h2]] at *
    clear h2 hp
    go_wp2
    go_ret
    exact ⟨by rw [HS.out]; rfl, kB⟩
  · have HS := hid (show signZ z = 1 by simp [signZ]; omega)
    have h3 : ((n : Int) == 0) = false := by simp; omega
    rw [show decide (z < 0) = false by simp; omega] at *
    clear h2 hp
    go_wp2
    go_ret
    exact ⟨by rw [HS.out]; rfl, kB⟩
end Go.Proofs.YtchibjdhdbkdhaaDoor
