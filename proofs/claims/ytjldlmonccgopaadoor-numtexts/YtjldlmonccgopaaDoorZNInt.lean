/- Whole numbers: Int, the program's and the document's. -/
import Derived.Test.YtjldlmonccgopaaDoorZNAtoi
import Derived.Test.YtjldlmonccgopaaDoorZNText
import Derived.Test.YtjldlmonccgopaaDoorZSText
import Derived.Test.YtjldlmonccgopaaDoorPk9
import Derived.Test.YtjldlmonccgopaaDoorPk17
import Derived.Test.YtjldlmonccgopaaDoorZShelfAtoi
import Derived.Lib.AtoiErrMem
import Derived.Deep.RegionHeld3
namespace Go.Proofs.YtjldlmonccgopaaDoor
open Go.RowKit
set_option linter.unusedVariables false
set_option maxRecDepth 100000
set_option linter.unusedSimpArgs false
attribute [local go_sem ↓] Go.wp_at_zero Go.wp_at_succ

def fitB (z : Int) : Bool := decide (-9223372036854775808 ≤ z) && decide (z < 9223372036854775808)
def fitV (z : Int) : Int := if fitB z = true then z else 0
theorem fit_yes {z : Int} (h1 : -9223372036854775808 ≤ z) (h2 : z < 9223372036854775808) : fitB z = true ∧ fitV z = z := by
  have h : fitB z = true := by unfold fitB; rw [decide_eq_true h1, decide_eq_true h2]; rfl
  exact ⟨h, by unfold fitV; rw [if_pos h]⟩
theorem fit_no {z : Int} (h : z < -9223372036854775808 ∨ 9223372036854775808 ≤ z) : fitB z = false ∧ fitV z = 0 := by
  have h' : fitB z = false := by
    unfold fitB
    rcases h with h | h
    · rw [decide_eq_false (by omega)]; rfl
    · rw [decide_eq_false (show ¬ z < 9223372036854775808 by omega), Bool.and_false]
  exact ⟨h', by unfold fitV; rw [if_neg (by rw [h']; simp)]⟩
/-- The library's own error is some value of its kind. -/
def Er (w : World) : Prop := ∃ ev, w.cell? ⟨1, 0, none⟩ = some ev ∧ (ev = .nilIface ∨ ∃ te pe, ev = .iface te pe)
theorem Er.below {w w' : World} (h : Er w) (hb : Below w.heap.size w w') : Er w' := by
  obtain ⟨ev, h1, h2⟩ := h
  exact ⟨ev, (hb.cell (World.block_lt_of_cell? _ _ h1)).trans h1, h2⟩
theorem ret_int_bool {a c : Int} {b d : Bool} (h : a = c) (h' : b = d) : Ending.returned (.tuple #[.int .i64 a, .bool b]) = .returned (.tuple #[.int .i64 c, .bool d]) := by rw [h, h']
theorem txt_short {t : ByteArray} (h : Txt t) (hn : num t < 18446744073709551616) : t.size ≤ 21 := by
  by_cases h1 : 1 < t.size
  · have h0 := h.2.1 h1
    have h3 := dv_ge (s := t) (t.size - 1) (by have := h.2.2 0 (by omega); omega)
    rw [show t.size - 1 + 1 = t.size by omega] at h3
    unfold num at hn
    by_cases h4 : t.size ≤ 21
    · exact h4
    · have h5 : 10 ^ 21 ≤ 10 ^ (t.size - 1) := Nat.pow_le_pow_right (by omega) (by omega)
      have h6 : (10 : Nat) ^ 21 = 1000000000000000000000 := by decide
      omega
  · omega
theorem ztx_short {s : ByteArray} {z : Int} (h : ZTx s z) (hz : z.natAbs < 18446744073709551616) : s.size ≤ 22 := by
  rcases h with ⟨_, h1, h2⟩ | ⟨_, t, rfl, h1, h2⟩
  · have := txt_short h1 (by omega); omega
  · have := txt_short h1 (by omega)
    have e : (minus t).size = 1 + t.size := by simp [minus, ByteArray.size_append]; rfl
    omega
set_option maxHeartbeats 3200000 in
theorem nint_any (w : World) (a : Value) (z : Int) (K : Nat) (hK : K ≤ 100000000) (ha : NumIs w a z K) (htab : Tab w) (her : Er w) :
    Calls Tryd.prog 6 #[a] w fun e w' => e = .returned (.tuple #[.int .i64 (fitV z), .bool (fitB z)]) ∧ Below w.heap.size w w' := by
  have ha0 := ha
  obtain ⟨ao, l, c, rfl, na⟩ := ha
  obtain ⟨b, hb⟩ : ∃ b, Bin z.natAbs b := ⟨_, bin_ex _⟩
  generalize decide (z < 0) = sg at *
  have x0 := box_new w (Obj.cells #[.slice ao l c, .bool sg] 26)
  have B0 : Below w.heap.size w (w.alloc (Obj.cells #[.slice ao l c, .bool sg] 26)) := (Below.refl _ _).alloc (Nat.le_refl _) _
  obtain ⟨X, hX⟩ : ∃ X, Hid (X = fitV z) := ⟨_, rfl⟩
  obtain ⟨Y, hY⟩ : ∃ X, Hid (X = fitB z) := ⟨_, rfl⟩
  rw [← hX.out, ← hY.out]
  go_enter Tryd.func6, Tryd.ntmps6
  go_wp2_with fail
  generalize w.alloc (Obj.cells #[.slice ao l c, .bool sg] 26) = W at *
  refine (bits_any W _ z.natAbs K b (by omega) (na.below B0) hb).mono ?_
  rintro e w1 ⟨rfl, b1⟩
  have x1 := box_below b1 x0 (lt_of_block x0)
  have c0 := two_cell0 x1
  have c1 := two_cell1 x1
  have B1 := chain2 B0 b1
  have n1 := ha0.below B1
  have HB := hid hb
  clear x0 x1 b1 B0 na ha0 hb
  by_cases h64 : 64 < b
  · have HN := hid (fit_no (z := z) (by
      obtain ⟨g1, g2, g3⟩ := HB.out
      have hz : z.natAbs ≠ 0 := fun e => by have := g3 e; omega
      have h2 := g2 hz
      have h3 : 2 ^ 65 ≤ 2 ^ b := Nat.pow_le_pow_right (by omega) (by omega)
      have h4 : (2 : Nat) ^ 65 = 36893488147419103232 := by decide
      omega))
    go_wp2
    go_ret2
    exact ⟨ret_int_bool (HN.out.2.symm.trans hX.out.symm) (HN.out.1.symm.trans hY.out.symm), B1⟩
  · have hz64 : z.natAbs < 18446744073709551616 := by
      have h1 := HB.out.1
      have h3 : 2 ^ b ≤ 2 ^ 64 := Nat.pow_le_pow_right (by omega) (by omega)
      have h4 : (2 : Nat) ^ 64 = 18446744073709551616 := by decide
      omega
    have HZ := hid hz64
    clear hz64
    go_wp2_with fail
    refine (ntext_any w1 _ z K (by omega) n1 (htab.below B1)).mono ?_
    rintro e w2 ⟨⟨s, rfl, hs⟩, b2⟩
    have B2 := chain2 B1 b2
    have hsz := ztx_short hs HZ.out
    have her2 := her.below B2
    clear c0 c1 n1 b2 htab her B1
    rcases ztx_atoi hs with ⟨h1, h2, h3⟩ | ⟨h1, h3⟩
    · have HN := hid (fit_yes h1 h2)
      have HA := hid h3
      clear h3 hs h1 h2
      go_wp2_with fail
      refine (Tryd.strconv_Atoi_ok s (by omega) z HA.out w2).mono ?_
      rintro e w3 ⟨rfl, hw⟩
      have b3 : Below w2.heap.size w2 w3 := by
        rcases hw with rfl | ⟨t, rfl⟩
        · exact Below.refl _ _
        · exact Lib.bytesWorld_below _ _ _
      have B3 := chain2 B2 b3
      clear hw b3
      go_wp2
      go_ret2
      exact ⟨ret_int_bool (HN.out.2.symm.trans hX.out.symm) (HN.out.1.symm.trans hY.out.symm), B3⟩
    · have HN := hid (fit_no h1)
      have HA := hid h3
      obtain ⟨ev, hv, hev⟩ := her2
      clear h3 hs h1
      go_wp2_with fail
      refine (Tryd.strconv_Atoi_range s (by omega) HA.out ev w2 hv hev).mono ?_
      rintro e w3 ⟨Nb, rfl, _, _, b3⟩
      have B3 := chain2 B2 b3
      generalize Lib.atoiSat s.data.toList = sat at *
      clear hv hev
      go_wp2
      go_ret2
      exact ⟨ret_int_bool (HN.out.2.symm.trans hX.out.symm) (HN.out.1.symm.trans hY.out.symm), B3⟩
theorem cmp_less {x y : Int} (h : x < y) : cmpZ x y = -1 := by unfold cmpZ; rw [if_pos h]
theorem cmp_more {x y : Int} (h : y < x) : cmpZ x y = 1 := by unfold cmpZ; rw [if_neg (by omega), if_pos h]
theorem cmp_not_less {x y : Int} (h : ¬ x < y) : cmpZ x y = 0 ∨ cmpZ x y = 1 := by
  unfold cmpZ; rw [if_neg h]; split <;> simp
theorem cmp_not_more {x y : Int} (h : ¬ y < x) : cmpZ x y = 0 ∨ cmpZ x y = -1 := by
  by_cases h2 : x < y
  · exact Or.inr (by unfold cmpZ; rw [if_pos h2])
  · exact Or.inl (by unfold cmpZ; rw [if_neg h2, if_neg h])
set_option maxHeartbeats 6400000 in
theorem sint_any (w : World) (a : Value) (z : Int) (K : Nat) (hK : K ≤ 100000000) (ha : RNumIs w a z K) :
    Calls Tryd.prog 10 #[a] w fun e w' => e = .returned (.tuple #[.int .i64 (fitV z), .bool (fitB z)]) ∧ Below w.heap.size w w' := by
  have ha0 := ha
  obtain ⟨ao, l, c, rfl, na⟩ := ha
  obtain ⟨sg, hsg⟩ : ∃ sg, sg = decide (z < 0) := ⟨_, rfl⟩
  rw [← hsg] at ha0 ⊢
  have HSG := hid hsg
  clear hsg
  have x0 := box_new w (Obj.cells #[.bool sg, .slice ao l c] 31)
  have B0 : Below w.heap.size w (w.alloc (Obj.cells #[.bool sg, .slice ao l c] 31)) := (Below.refl _ _).alloc (Nat.le_refl _) _
  obtain ⟨X, hX⟩ : ∃ X, Hid (X = fitV z) := ⟨_, rfl⟩
  obtain ⟨Y, hY⟩ : ∃ X, Hid (X = fitB z) := ⟨_, rfl⟩
  rw [← hX.out, ← hY.out]
  go_enter Tryd.func10, Tryd.ntmps10
  go_wp2
  generalize w.alloc (Obj.cells #[.bool sg, .slice ao l c] 31) = W at *
  have c0 := two_cell0 x0
  have c1 := two_cell1 x0
  have D0 : Below W.heap.size W W.drew := (Below.refl _ _).drew
  have N0 := ha0.below B0
  have keep : ∀ X, Below W.heap.size W X → X.cell? ⟨w.heap.size, 0, none⟩ = some (.bool sg) ∧ X.cell? ⟨w.heap.size, 1, none⟩ = some (.slice ao l c) := fun X h => ⟨two_cell0 (box_below h x0 (lt_of_block x0)), two_cell1 (box_below h x0 (lt_of_block x0))⟩
  rcases (show z < -9223372036854775808 ∨ (¬ z < -9223372036854775808 ∧ 9223372036854775807 < z) ∨ (¬ z < -9223372036854775808 ∧ ¬ 9223372036854775807 < z) by omega) with h | ⟨h, h'⟩ | ⟨h, h'⟩
  · have HN := hid (fit_no (z := z) (Or.inl h))
    have HC := hid (cmp_less h)
    clear h
    go_region_with (first
      | (have gk := D1; go_at_call 25; refine (scmp_any _ _ _ z (-9223372036854775808) K 3 (by omega) (by omega) (N0.below D1) m1).mono ?_; rintro e w2 ⟨rfl, hb2⟩; have D2 := chain2 D1 hb2; rw [HC.out])
      | (go_at_call 8; refine (sof_any _ (-9223372036854775808) (by omega) (by omega)).mono ?_; rintro e w1 ⟨v1, rfl, m1, hb1⟩; have D1 := chain2 D0 hb1))
    all_goals
      simp only [List.getElem_toArray, List.getElem_cons_zero, List.getElem_cons_succ, Act.put, List.setIfInBounds_toArray, List.set_cons_succ, List.set_cons_zero]
      have B2 := chain2 B0 D2
      clear m1 D1 D2 D0 hb1 hb2 keep c0 c1 x0
      go_wp2
      go_ret2
      exact ⟨ret_int_bool (HN.out.2.symm.trans hX.out.symm) (HN.out.1.symm.trans hY.out.symm), B2⟩
  · have HN := hid (fit_no (z := z) (Or.inr (by omega)))
    have HC := hid (cmp_not_less h)
    have H2 := hid (cmp_more h')
    clear h h'
    obtain ⟨q, hq⟩ : ∃ q, q = cmpZ z (-9223372036854775808) := ⟨_, rfl⟩
    have hq0 : decide (q < 0) = false := decide_eq_false (by have := HC.out; omega)
    have Hq := hid hq
    clear hq
    go_region_held3 (fun w' => w'.cell? ⟨w.heap.size, 0, none⟩ = some (.bool sg) ∧ w'.cell? ⟨w.heap.size, 1, none⟩ = some (.slice ao l c)) ((first | exact keep _ D0 | exact keep _ D1 | exact keep _ D2 | exact keep _ D3 | exact keep _ D4)) (first
      | (have gk := D3; go_at_call 25; refine (scmp_any _ _ _ z 9223372036854775807 K 3 (by omega) (by omega) (N0.below D3) m3).mono ?_; rintro e w4 ⟨rfl, hb4⟩; have D4 := chain2 D3 hb4; rw [H2.out])
      | (have gk := D2; go_at_call 8; refine (sof_any _ 9223372036854775807 (by omega) (by omega)).mono ?_; rintro e w3 ⟨v3, rfl, m3, hb3⟩; have D3 := chain2 D2 hb3)
      | (have gk := D1; go_at_call 25; refine (scmp_any _ _ _ z (-9223372036854775808) K 3 (by omega) (by omega) (N0.below D1) m1).mono ?_; rintro e w2 ⟨rfl, hb2⟩; have D2 := chain2 D1 hb2; rw [← Hq.out])
      | (go_at_call 8; refine (sof_any _ (-9223372036854775808) (by omega) (by omega)).mono ?_; rintro e w1 ⟨v1, rfl, m1, hb1⟩; have D1 := chain2 D0 hb1))
    all_goals
      have B2 := chain2 B0 D4
      clear m1 m3 D1 D2 D3 D4 D0 hb1 hb2 hb3 hb4 keep c0 c1 x0
      go_wp2
      go_ret2
      exact ⟨ret_int_bool (HN.out.2.symm.trans hX.out.symm) (HN.out.1.symm.trans hY.out.symm), B2⟩
  · have HN := hid (fit_yes (z := z) (by omega) (by omega))
    have HC := hid (cmp_not_less h)
    obtain ⟨q2, hq2⟩ : ∃ q, cmpZ z 9223372036854775807 = q := ⟨_, rfl⟩
    have hq20 : decide (0 < q2) = false := decide_eq_false (by have := cmp_not_more h'; omega)
    have H2 := hid hq2
    have HZ := hid (And.intro h h')
    clear h h' hq2
    obtain ⟨q, hq⟩ : ∃ q, q = cmpZ z (-9223372036854775808) := ⟨_, rfl⟩
    have hq0 : decide (q < 0) = false := decide_eq_false (by have := HC.out; omega)
    have Hq := hid hq
    clear hq
    go_region_held3 (fun w' => w'.cell? ⟨w.heap.size, 0, none⟩ = some (.bool sg) ∧ w'.cell? ⟨w.heap.size, 1, none⟩ = some (.slice ao l c)) ((first | exact keep _ D0 | exact keep _ D1 | exact keep _ D2 | exact keep _ D3 | exact keep _ D4)) (first
      | (have gk := D3; go_at_call 25; refine (scmp_any _ _ _ z 9223372036854775807 K 3 (by omega) (by omega) (N0.below D3) m3).mono ?_; rintro e w4 ⟨rfl, hb4⟩; have D4 := chain2 D3 hb4; rw [H2.out])
      | (have gk := D2; go_at_call 8; refine (sof_any _ 9223372036854775807 (by omega) (by omega)).mono ?_; rintro e w3 ⟨v3, rfl, m3, hb3⟩; have D3 := chain2 D2 hb3)
      | (have gk := D1; go_at_call 25; refine (scmp_any _ _ _ z (-9223372036854775808) K 3 (by omega) (by omega) (N0.below D1) m1).mono ?_; rintro e w2 ⟨rfl, hb2⟩; have D2 := chain2 D1 hb2; rw [← Hq.out])
      | (go_at_call 8; refine (sof_any _ (-9223372036854775808) (by omega) (by omega)).mono ?_; rintro e w1 ⟨v1, rfl, m1, hb1⟩; have D1 := chain2 D0 hb1))
    all_goals
      have B2 := chain2 B0 D4
      obtain ⟨c2, c3⟩ := keep _ D4
      have na2 := na.below B2
      obtain ⟨sl, L, hsl, oL, bL, tL, vL, lL⟩ := na2
      obtain ⟨ao', cap', hsl2⟩ := ints_slice oL
      simp only [Value.agg.injEq, Array.mk.injEq, List.cons.injEq, and_true] at hsl
      rw [hsl2] at hsl
      simp only [Value.slice.injEq] at hsl
      obtain ⟨rfl, rfl, rfl⟩ := hsl
      rw [hsl2] at oL
      clear m1 m3 D1 D2 D3 D0 hb1 hb2 hb3 keep c0 c1 x0 B0 na hsl2
      have hbig : R.val L < 18446744073709551616 := by have := HZ.out; omega
      have HV := hid vL
      have HBd := hid bL
      have hlen1 : L.length ≤ 100000000 := by omega
      clear vL bL tL lL
      go_wp2
      go_loop [4, 5] (fun u i => ∃ k n : Nat, k ≤ L.length ∧ i = .int .i64 ((k : Int) - 1) ∧ u = .int .u64 (n : Int) ∧ n ≤ R.val L ∧ Hid (R.val L = n * 1000000000 ^ k + R.pv L k)) (fun _ i => (intOf i + 1).toNat)
      case atStart => exact ⟨L.length, 0, Nat.le_refl _, rfl, rfl, Nat.zero_le _, by show _ = _; rw [Nat.zero_mul, Nat.zero_add]; rfl⟩
      case round =>
        obtain ⟨k, n, hk, rfl, rfl, hn, HR⟩ := hrel
        by_cases hk0 : k = 0
        · subst hk0
          have HF := hid (show n = z.natAbs by have := HR.out; rw [Nat.pow_zero, Nat.mul_one] at this; simp only [R.pv, Nat.add_zero] at this; rw [← this]; exact HV.out)
          have hneg : ¬ ((0 : Int) ≤ ((0 : Nat) : Int) - 1) := by omega
          by_cases hz : z < 0
          · obtain rfl : sg = true := HSG.out.trans (decide_eq_true hz)
            have hn1 : 1 ≤ n := by have := HF.out; omega
            have hn2 : n ≤ 9223372036854775808 := by have := HF.out; have := HZ.out; omega
            have HG := hid (show -((n : Int) - 1) - 1 = z by have := HF.out; omega)
            clear hz
            go_wp2
            go_ret2
            exact ⟨ret_int_bool (HG.out.trans (HN.out.2.symm.trans hX.out.symm)) (HN.out.1.symm.trans hY.out.symm), B2⟩
          · obtain rfl : sg = false := HSG.out.trans (decide_eq_false hz)
            have hn2 : n ≤ 9223372036854775807 := by have := HF.out; have := HZ.out; omega
            have HG := hid (show (n : Int) = z by have := HF.out; omega)
            clear hz
            go_wp2
            go_ret2
            exact ⟨ret_int_bool (HG.out.trans (HN.out.2.symm.trans hX.out.symm)) (HN.out.1.symm.trans hY.out.symm), B2⟩
        · obtain ⟨q3, rfl⟩ : ∃ q3, k = q3 + 1 := ⟨k - 1, by omega⟩
          rcases oL.2 with ⟨h1, h2⟩ | ⟨g, cap, cur, hv, _, hh, r1, r2, _⟩
          · omega
          simp only [Value.slice.injEq] at hv
          obtain ⟨rfl, _, rfl⟩ := hv
          have hcell := i64s_at oL q3 (by omega)
          have HR2 := hid (show R.val L = (n * 1000000000 + lg L q3) * 1000000000 ^ q3 + R.pv L q3 by
            have := HR.out
            rw [this, Nat.pow_succ, R.pv, Nat.add_mul, Nat.mul_assoc n, Nat.mul_comm 1000000000]
            omega)
          have hle : n * 1000000000 + lg L q3 ≤ R.val L := by
            have h1 := HR2.out
            have h2 : 1 ≤ 1000000000 ^ q3 := Nat.pow_pos (by omega)
            have h3 : (n * 1000000000 + lg L q3) * 1 ≤ (n * 1000000000 + lg L q3) * 1000000000 ^ q3 := Nat.mul_le_mul_left _ h2
            omega
          have hlg := HBd.out q3
          have HLe := hid hle
          have i1 : (0 : Int) ≤ (((q3 + 1 : Nat) : Int) - 1) := by omega
          unfold maxLen at r2
          have hr1 := r1
          generalize R.val L = V at *
          generalize lg L q3 = y at *
          rw [show (((q3 + 1 : Nat) : Int) - 1) = (q3 : Int) by omega]
          clear oL hh hk0 i1
          go_wp2
          go_round
          case rel => exact ⟨q3, n * 1000000000 + y, by omega, by go_num, by go_num, HLe.out, HR2.out⟩
          case measure => simp [intOf]
end Go.Proofs.YtjldlmonccgopaaDoor
