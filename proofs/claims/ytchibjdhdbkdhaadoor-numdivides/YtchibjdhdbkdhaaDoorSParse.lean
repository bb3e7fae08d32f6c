/- The document's whole numbers: Make, Parse. -/
import Derived.Test.YtchibjdhdbkdhaaDoorNBase
import Derived.Test.YtchibjdhdbkdhaaDoorRParse
namespace Go.Proofs.YtchibjdhdbkdhaaDoor
open Go.RowKit
set_option linter.unusedVariables false
set_option maxRecDepth 100000
set_option linter.unusedSimpArgs false

theorem ref_len {w : World} {ao : Option Addr} {l c m K : Nat} (h : RefIs w (.agg #[.slice ao l c]) m K) : (0 < l ↔ 0 < m) ∧ l ≤ K := by
  obtain ⟨sl, L, h1, h2, h3, h4, h5, h6⟩ := h
  simp only [Value.agg.injEq, Array.mk.injEq, List.cons.injEq, and_true] at h1
  obtain ⟨ao', c', hs⟩ := ints_slice h2
  rw [← h1] at hs
  simp only [Value.slice.injEq] at hs
  obtain ⟨_, hl, _⟩ := hs
  refine ⟨?_, by omega⟩
  rw [hl, ← h5]
  constructor
  · intro hp
    have := R.val_lt_len (L := []) (M := L) (by intro j; simp [lg]) h4 (by simpa using hp)
    have e : R.val [] = 0 := rfl
    omega
  · intro hp
    rcases Nat.eq_zero_or_pos L.length with e | e
    · rw [List.eq_nil_of_length_eq_zero e] at hp
      have e : R.val [] = 0 := rfl
      omega
    · exact e
set_option maxHeartbeats 800000 in
/-- The document's Make. -/
theorem smake_any (w : World) (b : Bool) (a : Value) (m K : Nat) (ha : RefIs w a m K) :
    Calls Tryd.prog 29 #[.bool b, a] w fun e w' => ∃ v, e = .returned v ∧ RNumIs w' v (sgn b m) K ∧ Below w.heap.size w w' := by
  obtain ⟨ao, l, c, rfl⟩ := ha.form
  have hl := ref_len ha
  have HD := hid (show decide (sgn b m < 0) = (b && decide (0 < l)) by rw [sgn_neg]; congr 1; exact decide_eq_decide.2 hl.1.symm)
  have hB := fun v : Value => boxed2 (Below.refl w.heap.size w) (Obj.cells #[.slice ao l c] 29) (Obj.cells #[v, .slice ao l c] 31)
  clear hl
  cases b
  · go_enter Tryd.func29, Tryd.ntmps29
    go_wp2_with fail
    exact bodyPost_ret (v := .agg #[.bool false, .slice ao l c]) (by simp [results, Tryd.results29, go_sem]) rfl ⟨_, rfl, ⟨ao, l, c, by rw [HD.out]; rfl, by rw [sgn_abs]; exact ha.below (hB _)⟩, hB _⟩
  · go_enter Tryd.func29, Tryd.ntmps29
    go_wp2_with fail
    exact bodyPost_ret (v := .agg #[.bool (decide (0 < l)), .slice ao l c]) (by simp [results, Tryd.results29, go_sem]) rfl ⟨_, rfl, ⟨ao, l, c, by rw [HD.out]; rfl, by rw [sgn_abs]; exact ha.below (hB _)⟩, hB _⟩
set_option maxHeartbeats 800000 in
theorem sparse_minus_no (s : ByteArray) (w : World) (hs : s.size ≤ 1000000000) (h0 : 0 < s.size) (h : bt s 0 = 45) (ht : ¬ Txt (s.extract 1 s.size)) :
    Calls Tryd.prog 25 #[.string s] w fun e w' => e = .returned (.tuple #[.agg #[.bool false, .slice none 0 0], .int .i64 10]) ∧ Below w.heap.size w w' := by
  have hx := box_new w (Obj.cells #[.bool false, .slice none 0 0] 31)
  have hB : Below w.heap.size w (w.alloc (Obj.cells #[.bool false, .slice none 0 0] 31)) := (Below.refl _ _).alloc (Nat.le_refl _) _
  have hb : (s[0]'h0).toNat = 45 := by rw [bt_at]; exact h
  have h2 : s[0]'h0 = 45 := UInt8.toNat_inj.1 hb
  have hte : (s.extract 1 s.size).size ≤ 1000000000 := by simp; omega
  clear h
  go_enter Tryd.func25, Tryd.ntmps25
  go_wp2_with fail
  generalize w.alloc (Obj.cells #[.bool false, .slice none 0 0] 31) = W at *
  generalize s.extract 1 s.size = t at *
  refine (rparse_no t W hte ht).mono ?_
  rintro e w1 ⟨rfl, hb1⟩
  have hx3 := below_alloc' hb1 (Nat.le_refl _) (Obj.cells #[.slice none 0 0] 29)
  have hx1 := box_below hx3 hx (lt_of_block hx)
  have c1 := chain2 hB hx3
  have u2 := two_cell0 hx1
  have u3 := two_cell1 hx1
  have v2 := two_free (k := 0) hx1
  have v3 := two_free (k := 1) hx1
  obtain ⟨k0, k1, kB⟩ := end_two c1 (Nat.le_refl _) hx1 (.bool false) (.slice none 0 0)
  have HK := hid (And.intro k0 k1)
  clear k0 k1 hx hx1
  go_wp2
  exact bodyPost_ret (v := .tuple #[.agg #[.bool false, .slice none 0 0], .int .i64 10]) (by simp [results, Tryd.results25, go_sem, HK.out.1, HK.out.2]) rfl ⟨rfl, kB⟩
set_option maxHeartbeats 800000 in
theorem sparse_minus_nought (s : ByteArray) (w : World) (hs : s.size ≤ 1000000000) (h0 : 0 < s.size) (h : bt s 0 = 45) (ht : Txt (s.extract 1 s.size)) (hz : num (s.extract 1 s.size) = 0) :
    Calls Tryd.prog 25 #[.string s] w fun e w' => e = .returned (.tuple #[.agg #[.bool false, .slice none 0 0], .int .i64 10]) ∧ Below w.heap.size w w' := by
  have hx := box_new w (Obj.cells #[.bool false, .slice none 0 0] 31)
  have hB : Below w.heap.size w (w.alloc (Obj.cells #[.bool false, .slice none 0 0] 31)) := (Below.refl _ _).alloc (Nat.le_refl _) _
  have hb : (s[0]'h0).toNat = 45 := by rw [bt_at]; exact h
  have h2 : s[0]'h0 = 45 := UInt8.toNat_inj.1 hb
  have hte : (s.extract 1 s.size).size ≤ 1000000000 := by simp; omega
  clear h
  go_enter Tryd.func25, Tryd.ntmps25
  go_wp2_with fail
  generalize w.alloc (Obj.cells #[.bool false, .slice none 0 0] 31) = W at *
  generalize s.extract 1 s.size = t at *
  refine (rparse_yes t W hte ht).mono ?_
  rintro e w1 ⟨⟨v, rfl, nv⟩, hb1⟩
  obtain ⟨ar, lr, cr, rfl⟩ := nv.form
  have hl : lr = 0 := by have := (ref_len nv).1; omega
  subst hl
  have hx3 := below_alloc' hb1 (Nat.le_refl _) (Obj.cells #[.slice ar 0 cr] 29)
  have hx1 := box_below hx3 hx (lt_of_block hx)
  have c1 := chain2 hB hx3
  have u2 := two_cell0 hx1
  have u3 := two_cell1 hx1
  have v2 := two_free (k := 0) hx1
  have v3 := two_free (k := 1) hx1
  obtain ⟨k0, k1, kB⟩ := end_two c1 (Nat.le_refl _) hx1 (.bool false) (.slice none 0 0)
  have HK := hid (And.intro k0 k1)
  clear k0 k1 hx hx1
  go_wp2
  exact bodyPost_ret (v := .tuple #[.agg #[.bool false, .slice none 0 0], .int .i64 10]) (by simp [results, Tryd.results25, go_sem, HK.out.1, HK.out.2]) rfl ⟨rfl, kB⟩
set_option maxHeartbeats 800000 in
theorem sparse_minus (s t : ByteArray) (w : World) (hs : s.size ≤ 1000000000) (h0 : 0 < s.size) (h : bt s 0 = 45) (he : s.extract 1 s.size = t) (ht : Txt t) (hz : num t ≠ 0) :
    Calls Tryd.prog 25 #[.string s] w fun e w' => ∃ v, e = .returned (.tuple #[v, .int .i64 0]) ∧ RNumIs w' v (sgn true (num t)) (t.size / 9 + 1) ∧ Below w.heap.size w w' := by
  have hx := box_new w (Obj.cells #[.bool false, .slice none 0 0] 31)
  have hB : Below w.heap.size w (w.alloc (Obj.cells #[.bool false, .slice none 0 0] 31)) := (Below.refl _ _).alloc (Nat.le_refl _) _
  have hb : (s[0]'h0).toNat = 45 := by rw [bt_at]; exact h
  have h2 : s[0]'h0 = 45 := UInt8.toNat_inj.1 hb
  have hte : t.size ≤ 1000000000 := by rw [← he]; simp; omega
  have HE := hid he
  clear h he
  go_enter Tryd.func25, Tryd.ntmps25
  go_wp2_with fail
  generalize w.alloc (Obj.cells #[.bool false, .slice none 0 0] 31) = W at *
  rw [HE.out]
  refine (rparse_yes t W hte ht).mono ?_
  rintro e w1 ⟨⟨v, rfl, nv⟩, hb1⟩
  obtain ⟨ar, lr, cr, rfl⟩ := nv.form
  have hx3 := below_alloc' hb1 (Nat.le_refl _) (Obj.cells #[.slice ar lr cr] 29)
  have hx1 := box_below hx3 hx (lt_of_block hx)
  have c1 := chain2 hB hx3
  have n1 := nv.below ((Below.refl _ _).alloc (Nat.le_refl _) (Obj.cells #[.slice ar lr cr] 29))
  have hn := box_new w1 (Obj.cells #[.slice ar lr cr] 29)
  have hl0 : ((lr : Int) == 0) = false := by have := (ref_len nv).1; simp; omega
  clear hx hx3 hb1
  go_wp2_with fail
  generalize w1.alloc (Obj.cells #[.slice ar lr cr] 29) = W1 at *
  refine (smake_any W1 true _ _ _ n1).mono ?_
  rintro e w2 ⟨v, rfl, ⟨aq, lq, cq, rfl, n2⟩, hb2⟩
  have hx2 := box_below hb2 hx1 (lt_of_block hx1)
  have u2 := two_cell0 hx2
  have u3 := two_cell1 hx2
  have v2 := two_free (k := 0) hx2
  have v3 := two_free (k := 1) hx2
  obtain ⟨k0, k1, kB⟩ := end_two (chain2 c1 hb2) (Nat.le_refl _) hx2 (.bool (decide (sgn true (num t) < 0))) (.slice aq lq cq)
  have n3 := n2.box2 hx2 (by decide) (.bool (decide (sgn true (num t) < 0))) (.slice aq lq cq)
  have HK := hid (And.intro k0 k1)
  clear k0 k1 hx2
  go_wp2
  exact bodyPost_ret (v := .tuple #[.agg #[.bool (decide (sgn true (num t) < 0)), .slice aq lq cq], .int .i64 0]) (by simp [results, Tryd.results25, go_sem, HK.out.1, HK.out.2]) rfl ⟨_, rfl, ⟨aq, lq, cq, rfl, n3⟩, kB⟩
set_option maxHeartbeats 800000 in
theorem sparse_plain_no (s : ByteArray) (w : World) (hs : s.size ≤ 1000000000) (h0 : 0 < s.size) (h : bt s 0 ≠ 45) (ht : ¬ Txt s) :
    Calls Tryd.prog 25 #[.string s] w fun e w' => e = .returned (.tuple #[.agg #[.bool false, .slice none 0 0], .int .i64 10]) ∧ Below w.heap.size w w' := by
  have hx := box_new w (Obj.cells #[.bool false, .slice none 0 0] 31)
  have hB : Below w.heap.size w (w.alloc (Obj.cells #[.bool false, .slice none 0 0] 31)) := (Below.refl _ _).alloc (Nat.le_refl _) _
  have hb : (s[0]'h0).toNat ≠ 45 := by rw [bt_at]; exact h
  have h2 : (((s[0]'h0).toNat : Int) == 45) = false := by simp; omega
  clear h
  go_enter Tryd.func25, Tryd.ntmps25
  go_wp2_with fail
  generalize w.alloc (Obj.cells #[.bool false, .slice none 0 0] 31) = W at *
  refine (rparse_no s W hs ht).mono ?_
  rintro e w1 ⟨rfl, hb1⟩
  have hx3 := below_alloc' hb1 (Nat.le_refl _) (Obj.cells #[.slice none 0 0] 29)
  have hx1 := box_below hx3 hx (lt_of_block hx)
  have c1 := chain2 hB hx3
  have u2 := two_cell0 hx1
  have u3 := two_cell1 hx1
  have v2 := two_free (k := 0) hx1
  have v3 := two_free (k := 1) hx1
  obtain ⟨k0, k1, kB⟩ := end_two c1 (Nat.le_refl _) hx1 (.bool false) (.slice none 0 0)
  have HK := hid (And.intro k0 k1)
  clear k0 k1 hx hx1
  go_wp2
  exact bodyPost_ret (v := .tuple #[.agg #[.bool false, .slice none 0 0], .int .i64 10]) (by simp [results, Tryd.results25, go_sem, HK.out.1, HK.out.2]) rfl ⟨rfl, kB⟩
set_option maxHeartbeats 800000 in
theorem sparse_plain (s : ByteArray) (w : World) (hs : s.size ≤ 1000000000) (h0 : 0 < s.size) (h : bt s 0 ≠ 45) (ht : Txt s) :
    Calls Tryd.prog 25 #[.string s] w fun e w' => ∃ v, e = .returned (.tuple #[v, .int .i64 0]) ∧ RNumIs w' v (sgn false (num s)) (s.size / 9 + 1) ∧ Below w.heap.size w w' := by
  have hx := box_new w (Obj.cells #[.bool false, .slice none 0 0] 31)
  have hB : Below w.heap.size w (w.alloc (Obj.cells #[.bool false, .slice none 0 0] 31)) := (Below.refl _ _).alloc (Nat.le_refl _) _
  have hb : (s[0]'h0).toNat ≠ 45 := by rw [bt_at]; exact h
  have h2 : (((s[0]'h0).toNat : Int) == 45) = false := by simp; omega
  clear h
  go_enter Tryd.func25, Tryd.ntmps25
  go_wp2_with fail
  generalize w.alloc (Obj.cells #[.bool false, .slice none 0 0] 31) = W at *
  refine (rparse_yes s W hs ht).mono ?_
  rintro e w1 ⟨⟨v, rfl, nv⟩, hb1⟩
  obtain ⟨ar, lr, cr, rfl⟩ := nv.form
  have hx3 := below_alloc' hb1 (Nat.le_refl _) (Obj.cells #[.slice ar lr cr] 29)
  have hx1 := box_below hx3 hx (lt_of_block hx)
  have c1 := chain2 hB hx3
  have n1 := nv.below ((Below.refl _ _).alloc (Nat.le_refl _) (Obj.cells #[.slice ar lr cr] 29))
  have hn := box_new w1 (Obj.cells #[.slice ar lr cr] 29)
  clear hx hx3 hb1
  go_wp2_with fail
  generalize w1.alloc (Obj.cells #[.slice ar lr cr] 29) = W1 at *
  refine (smake_any W1 false _ _ _ n1).mono ?_
  rintro e w2 ⟨v, rfl, ⟨aq, lq, cq, rfl, n2⟩, hb2⟩
  have hx2 := box_below hb2 hx1 (lt_of_block hx1)
  have u2 := two_cell0 hx2
  have u3 := two_cell1 hx2
  have v2 := two_free (k := 0) hx2
  have v3 := two_free (k := 1) hx2
  obtain ⟨k0, k1, kB⟩ := end_two (chain2 c1 hb2) (Nat.le_refl _) hx2 (.bool (decide (sgn false (num s) < 0))) (.slice aq lq cq)
  have n3 := n2.box2 hx2 (by decide) (.bool (decide (sgn false (num s) < 0))) (.slice aq lq cq)
  have HK := hid (And.intro k0 k1)
  clear k0 k1 hx2
  go_wp2
  exact bodyPost_ret (v := .tuple #[.agg #[.bool (decide (sgn false (num s) < 0)), .slice aq lq cq], .int .i64 0]) (by simp [results, Tryd.results25, go_sem, HK.out.1, HK.out.2]) rfl ⟨_, rfl, ⟨aq, lq, cq, rfl, n3⟩, kB⟩
set_option maxHeartbeats 800000 in
theorem sparse_empty (s : ByteArray) (w : World) (h0 : s.size = 0) :
    Calls Tryd.prog 25 #[.string s] w fun e w' => e = .returned (.tuple #[.agg #[.bool false, .slice none 0 0], .int .i64 10]) ∧ Below w.heap.size w w' := by
  have hx := box_new w (Obj.cells #[.bool false, .slice none 0 0] 31)
  have hB : Below w.heap.size w (w.alloc (Obj.cells #[.bool false, .slice none 0 0] 31)) := (Below.refl _ _).alloc (Nat.le_refl _) _
  have HT := hid (show ¬ Txt s from fun h => h.1 h0)
  have h1 : ¬ 0 < s.size := by omega
  have HZ := hid h0
  clear h0
  go_enter Tryd.func25, Tryd.ntmps25
  go_wp2_with fail
  generalize w.alloc (Obj.cells #[.bool false, .slice none 0 0] 31) = W at *
  refine (rparse_no s W (by have := HZ.out; omega) HT.out).mono ?_
  rintro e w1 ⟨rfl, hb1⟩
  have hx3 := below_alloc' hb1 (Nat.le_refl _) (Obj.cells #[.slice none 0 0] 29)
  have hx1 := box_below hx3 hx (lt_of_block hx)
  have c1 := chain2 hB hx3
  have u2 := two_cell0 hx1
  have u3 := two_cell1 hx1
  have v2 := two_free (k := 0) hx1
  have v3 := two_free (k := 1) hx1
  obtain ⟨k0, k1, kB⟩ := end_two c1 (Nat.le_refl _) hx1 (.bool false) (.slice none 0 0)
  have HK := hid (And.intro k0 k1)
  clear k0 k1 hx hx1
  go_wp2
  exact bodyPost_ret (v := .tuple #[.agg #[.bool false, .slice none 0 0], .int .i64 10]) (by simp [results, Tryd.results25, go_sem, HK.out.1, HK.out.2]) rfl ⟨rfl, kB⟩
end Go.Proofs.YtchibjdhdbkdhaaDoor
