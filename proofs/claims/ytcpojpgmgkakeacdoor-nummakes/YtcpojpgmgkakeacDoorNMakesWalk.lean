/- NumMakes: what the call answers. -/
import Derived.Test.YtcpojpgmgkakeacDoorNNumber
import Derived.Test.YtcpojpgmgkakeacDoorNText
namespace Go.Proofs.YtcpojpgmgkakeacDoor
open Go.RowKit
set_option linter.unusedVariables false
set_option maxRecDepth 100000
set_option linter.unusedSimpArgs false
attribute [local go_sem ↓] Go.wp_at_zero Go.wp_at_succ

set_option maxHeartbeats 800000 in
/-- Make: the number with that sign. -/
theorem nmake_any (w : World) (b : Bool) (a : Value) (m K : Nat) (hK : K < 1000000000) (ha : NatIs w a m K) :
    Calls Tryd.prog 27 #[.bool b, a] w fun e w' => ∃ v, e = .returned v ∧ NumIs w' v (sgn b m) (K + 1) ∧ Below w.heap.size w w' := by
  obtain ⟨ao, l, c, rfl⟩ := ha.form
  have hx := boxed2_first w (Obj.cells #[.slice ao l c] 26) (Obj.cells #[.slice none 0 0, .bool false] 28)
  have hy := boxed2_second w (Obj.cells #[.slice ao l c] 26) (Obj.cells #[.slice none 0 0, .bool false] 28)
  have hB := boxed2 (Below.refl w.heap.size w) (Obj.cells #[.slice ao l c] 26) (Obj.cells #[.slice none 0 0, .bool false] 28)
  go_enter Tryd.func27, Tryd.ntmps27
  go_wp2_with fail
  generalize (w.alloc (Obj.cells #[.slice ao l c] 26)).alloc (Obj.cells #[.slice none 0 0, .bool false] 28) = W at *
  have na := ha.below hB
  have HY := hid hy
  have t1 := cell_of_one hx
  clear hx hy
  refine (ncopied_any _ _ _ _ (by omega) na).mono ?_
  rintro e w1 ⟨v1, rfl, n1, hb1⟩
  have t2 := kc hb1 t1
  go_wp2_with fail
  refine (signed_any _ _ _ _ _ (by omega) n1).mono ?_
  rintro e w2 ⟨v2, rfl, n2, hb2⟩
  have B2 := chain2 hb1 hb2
  obtain ⟨ar, lr, cr, rfl, n3⟩ := n2
  have hy1 := box_below B2 HY.out (lt_of_block HY.out)
  have u2 := two_cell0 hy1
  have u3 := two_cell1 hy1
  have v2 := two_free (k := 0) hy1
  have v3 := two_free (k := 1) hy1
  obtain ⟨k0, k1, kB⟩ := end_two (chain2 hB B2) (Nat.le_succ _) hy1 (.slice ar lr cr) (.bool (decide (sgn b m < 0)))
  have n4 := n3.box2 hy1 (by decide) (.slice ar lr cr) (.bool (decide (sgn b m < 0)))
  have HK := hid (And.intro k0 k1)
  clear k0 k1
  go_wp2
  exact bodyPost_ret (v := .agg #[.slice ar lr cr, .bool (decide (sgn b m < 0))]) (by simp [results, Tryd.results27, go_sem, HK.out.1, HK.out.2]) rfl ⟨_, rfl, ⟨ar, lr, cr, rfl, n4⟩, kB⟩
set_option maxHeartbeats 1000000 in
theorem nmakes_none (b : Bool) (s : ByteArray) (w : World) (hs : s.size ≤ 512) (ht : ¬ Txt s) :
    Calls Tryd.prog 6 #[.bool b, .string s] w fun e w' => e = .returned (.bool true) ∧ Below w.heap.size w w' := by
  go_enter Tryd.func6, Tryd.ntmps6
  go_wp2_with fail
  refine (parse_no s _ (by omega) ht).mono ?_
  rintro e w1 ⟨rfl, hb1⟩
  have c1 := below_alloc' hb1 (Nat.le_refl _) (Obj.cells #[Value.slice none 0 0] 26)
  by_cases hz : ∃ z, ZTx s z
  · obtain ⟨z, hz⟩ := hz
    have h0 := hz.sign.1
    have hm : bt s 0 = 45 := by
      rcases hz with ⟨_, h2, _⟩ | ⟨_, t, rfl, _, _⟩
      · exact absurd h2 ht
      · exact minus_head t
    have hb : (s[0]'h0).toNat = 45 := by rw [bt_at]; exact hm
    have h2 : s[0]'h0 = 45 := UInt8.toNat_inj.1 hb
    clear hm hb
    go_wp2_with fail
    refine (sparse_z s z _ (by omega) hz).mono ?_
    rintro e w2 ⟨ar, lr, cr, rfl, _, hb2⟩
    have c2 := below_alloc' (chain2 c1 hb2) (Nat.le_refl _) (Obj.cells #[Value.bool (decide (z < 0)), Value.slice ar lr cr] 33)
    go_wp2
    go_ret
    exact ⟨rfl, c2⟩
  · go_wp2_with fail
    refine (sparse_none s _ (by omega) (fun z h => hz ⟨z, h⟩)).mono ?_
    rintro e w2 ⟨rfl, hb2⟩
    have c2 := below_alloc' (chain2 c1 hb2) (Nat.le_refl _) (Obj.cells #[Value.bool false, Value.slice none 0 0] 33)
    go_wp2
    go_ret
    exact ⟨rfl, c2⟩
theorem tl_48 : (⟨#[48]⟩ : ByteArray).toList = [48] := by rw [ByteArray.toList_eq]
theorem nmakes_zero {s : ByteArray} (h : Txt s) : (s.toList == [48]) = (num s == 0) := by
  by_cases hz : num s = 0
  · have : s = ⟨#[48]⟩ := num_inj h txt_zero.1 (hz.trans txt_zero.2.symm)
    rw [hz, this, tl_48]; rfl
  · have e1 : (s.toList == [48]) = false := beq_eq_false_iff_ne.2 (fun e => hz (by rw [tl_inj (e.trans tl_48.symm)]; exact txt_zero.2))
    rw [e1]; exact (beq_eq_false_iff_ne.2 hz).symm
theorem signZ_sgn (b : Bool) (m : Nat) : (signZ (sgn b m) == 0) = (m == 0) := by
  by_cases hm : m = 0
  · subst hm; cases b <;> rfl
  · have e1 : signZ (sgn b m) ≠ 0 := by cases b <;> simp [signZ, sgn] <;> omega
    rw [beq_eq_false_iff_ne.2 e1, beq_eq_false_iff_ne.2 hm]
set_option maxHeartbeats 2000000 in
theorem nmakes_some (b : Bool) (s t : ByteArray) (w : World) (htab : Tab w) (hs : s.size ≤ 512) (ht : Txt s) (hw1 : b = true ∧ num s ≠ 0 ∧ t = minus s ∨ (b = false ∨ num s = 0) ∧ t = s) :
    Calls Tryd.prog 6 #[.bool b, .string s] w fun e w' => e = .returned (.bool true) ∧ Below w.heap.size w w' := by
  have HT : Hid (ZTx t (sgn b (num s))) := by
    rcases hw1 with ⟨rfl, h0, rfl⟩ | ⟨h0, rfl⟩
    · exact Or.inr ⟨by simp [sgn]; omega, s, rfl, ht, by simp [sgn]⟩
    · refine Or.inl ⟨?_, ht, by rw [sgn_abs]⟩
      cases b
      · simp [sgn]
      · simp at h0; simp [sgn, h0]
  have HW := hid hw1
  have HN := hid ht
  have HE := hid (nmakes_zero ht)
  clear hw1
  go_enter Tryd.func6, Tryd.ntmps6
  go_wp2_with fail
  refine (parse_yes s _ (by omega) ht _ rfl).mono ?_
  rintro e w1 ⟨⟨v, rfl, nv⟩, hb1⟩
  obtain ⟨an, ln, cn, rfl⟩ := nv.form
  have c1 := below_alloc' hb1 (Nat.le_refl _) (Obj.cells #[Value.slice an ln cn] 26)
  have n1 := nv.below ((Below.refl _ _).alloc (Nat.le_refl _) (Obj.cells #[Value.slice an ln cn] 26))
  have p1 := box_new w1 (Obj.cells #[Value.slice an ln cn] 26)
  clear nv hb1
  go_wp2_with fail
  generalize w1.alloc (Obj.cells #[Value.slice an ln cn] 26) = W1 at *
  refine (sparse_z s (num s) _ (by omega) (Or.inl ⟨by omega, ht, by omega⟩)).mono ?_
  rintro e w2 ⟨ar, lr, cr, rfl, _, hb2⟩
  generalize decide ((num s : Int) < 0) = b2
  have hx2 := below_alloc' hb2 (Nat.le_refl _) (Obj.cells #[Value.bool b2, Value.slice ar lr cr] 33)
  have c2 := chain2 c1 hx2
  have n2 := n1.below hx2
  have p2 := box_below hx2 p1 (lt_of_block p1)
  have t1 := cell_of_one p2
  clear hb2 n1 p1 ht
  go_wp2_with fail
  generalize w2.alloc (Obj.cells #[Value.bool b2, Value.slice ar lr cr] 33) = W2 at *
  refine (nmake_any _ _ _ _ _ (by omega) n2).mono ?_
  rintro e w3 ⟨v3, rfl, n3, hb3⟩
  obtain ⟨aa, la, ca, rfl, n4⟩ := n3
  have Nv : NumIs w3 (Value.agg #[Value.slice aa la ca, Value.bool (decide (sgn b (num s) < 0))]) (sgn b (num s)) (s.size / 9 + 1 + 1) := ⟨aa, la, ca, rfl, n4⟩
  obtain ⟨b3, hb3'⟩ : ∃ b3, b3 = decide (sgn b (num s) < 0) := ⟨_, rfl⟩
  rw [← hb3'] at Nv ⊢
  clear hb3' n4
  have hx3 := below_alloc' hb3 (Nat.le_refl _) (Obj.cells #[Value.slice aa la ca, Value.bool b3] 28)
  have c3 := chain2 c2 hx3
  have Na := Nv.below ((Below.refl _ _).alloc (Nat.le_refl _) (Obj.cells #[Value.slice aa la ca, Value.bool b3] 28))
  have p3 := box_new w3 (Obj.cells #[Value.slice aa la ca, Value.bool b3] 28)
  clear hb3 hx3 Nv
  have EX : (s.toList == [48]) = (num s == 0) := HE.out
  have tabE := htab.below c3
  have t3 := two_cell0 p3
  have t4 := two_cell1 p3
  have hw : b = true ∧ (num s == 0) = false ∧ t = minus s ∨ (b = true ∧ (num s == 0) = true ∧ t = s) ∨ b = false ∧ t = s := by
    rcases HW.out with ⟨h1, h2, h3⟩ | ⟨h1, h3⟩
    · exact Or.inl ⟨h1, beq_eq_false_iff_ne.2 h2, h3⟩
    · cases b
      · exact Or.inr (Or.inr ⟨rfl, h3⟩)
      · simp at h1; exact Or.inr (Or.inl ⟨rfl, by simp [h1], h3⟩)
  have HS := hid (signZ_sgn b (num s))
  have E0 := hid (show ∀ u, ZTx u 0 → u = ⟨#[48]⟩ from fun u h => h.inj (Or.inl ⟨by omega, txt_zero.1, by rw [txt_zero.2]; rfl⟩))
  have EA := hid (show ∀ u, Txt u → num u = (sgn b (num s)).natAbs → u = s from fun u h1 h2 => num_inj h1 HN.out (by rw [h2, sgn_abs]))
  have EZ := hid (show ∀ W, NumIs W (Value.agg #[Value.slice none 0 0, Value.bool false]) 0 0 from fun W => ⟨none, 0, 0, rfl, nat_zero W⟩)
  have hsz : s.size / 9 + 1 + 1 ≤ 100 := by omega
  clear HN HE
  obtain ⟨q, hq⟩ : ∃ q, signZ (sgn b (num s)) = q := ⟨_, rfl⟩
  obtain ⟨Z, hZ⟩ : ∃ Z, sgn b (num s) = Z := ⟨_, rfl⟩
  rw [hq] at HS
  rw [hZ] at HT Na EA hq
  have HQ := hid hq
  have EQ : (q == 0) = (num s == 0) := HS.out
  clear hq hZ
  rcases hw with ⟨rfl, hn, e⟩ | ⟨rfl, hn, e⟩ | ⟨rfl, e⟩
  all_goals
    subst e
    clear HW
    go_wp2_with fail
    generalize w3.alloc (Obj.cells #[Value.slice aa la ca, Value.bool b3] 28) = W3 at *
    refine (ntext_any _ _ _ _ (by omega) Na tabE).mono ?_
    rintro e u1 ⟨⟨s1, rfl, h1⟩, hb1⟩
    rw [h1.inj HT.out]
    have t3 := kc hb1 t3
    have t4 := kc hb1 t4
    have Na := Na.below hb1
    have c4 := chain2 c3 hb1
    have tabE := htab.below c4
    (try unfold minus)
    go_wp2_with fail
    refine (nabs_any _ _ _ _ (by omega) Na).mono ?_
    rintro e u2 ⟨v2, rfl, m2, hb2⟩
    have t3 := kc hb2 t3
    have t4 := kc hb2 t4
    have Na := Na.below hb2
    have c5 := chain2 c4 hb2
    have tabE := htab.below c5
    go_wp2_with fail
    refine (text_any _ _ _ _ (by omega) m2 tabE).mono ?_
    rintro e u3 ⟨⟨s3, rfl, h3, e3⟩, hb3⟩
    rw [EA.out s3 h3 e3]
    have t3 := kc hb3 t3
    have t4 := kc hb3 t4
    have Na := Na.below hb3
    have c6 := chain2 c5 hb3
    have tabE := htab.below c6
    clear h3 e3
    go_wp2_with fail
    refine (nsign_any _ _ _ _ (by omega) Na).mono ?_
    rintro e u4 ⟨rfl, hb4⟩
    rw [HQ.out]
    have c7 := chain2 c6 hb4
    have tabE := htab.below c7
    go_wp2_with fail
    refine (ntext_any _ _ _ _ (by omega) (EZ.out _) tabE).mono ?_
    rintro e u5 ⟨⟨s5, rfl, h5⟩, hb5⟩
    rw [E0.out s5 h5]
    have c8 := chain2 c7 hb5
    go_wp2
    go_ret
    exact ⟨rfl, c8⟩
/-- NumMakes, whatever the text. -/
theorem nmakes_any (b : Bool) (s : ByteArray) (w : World) (htab : Tab w) :
    Calls Tryd.prog 6 #[.bool b, .string s] w fun e w' => e = .returned (.bool true) ∧ Below w.heap.size w w' := by
  by_cases hs : s.size ≤ 512
  · by_cases ht : Txt s
    · by_cases h : b = true ∧ num s ≠ 0
      · exact nmakes_some b s (minus s) w htab hs ht (Or.inl ⟨h.1, h.2, rfl⟩)
      · refine nmakes_some b s s w htab hs ht (Or.inr ⟨?_, rfl⟩)
        cases b
        · exact Or.inl rfl
        · exact Or.inr (by simp at h; exact h)
    · exact nmakes_none b s w hs ht
  · have h : 512 < s.size := by omega
    clear hs
    go_enter Tryd.func6, Tryd.ntmps6
    go_wp2
    go_ret
    exact ⟨rfl, Below.refl _ _⟩
end Go.Proofs.YtcpojpgmgkakeacDoor
