/- PMath, PVal, PLawMath, CMath, PParse. -/
import Derived.Test.YtcdkoadobdgbhaaGreatDoorPk38
import Derived.Lib.IndexMore
import Derived.Lib.IndexBytes
import Derived.Lib.IndexLaws
import Derived.Test.YtcdkoadobdgbhaaGreatDoorPk27
import Derived.Test.YtcdkoadobdgbhaaGreatDoorZQMake
import Derived.Test.YtcdkoadobdgbhaaGreatDoorZRDiv
import Derived.Test.YtcdkoadobdgbhaaGreatDoorPk23
/- Texts of fractions, in plain terms: where the bar stands, and which fraction a text is. -/
namespace Go.Proofs.YtcdkoadobdgbhaaGreatDoor
set_option linter.unusedVariables false
set_option linter.unusedSimpArgs false

/-- The first bar of s stands at p; at its end, if there is none. -/
structure CutAt (s : ByteArray) (p : Nat) : Prop where
  le : p ≤ s.size
  no : ∀ j, j < p → bt s j ≠ 47
  bar : p < s.size → bt s p = 47
theorem pbt_extract (s : ByteArray) (a b j : Nat) (hb : b ≤ s.size) (h : a + j < b) : bt (s.extract a b) j = bt s (a + j) := by
  have h1 : j < (s.extract a b).size := by rw [ByteArray.size_extract]; omega
  rw [← bt_at _ j h1, ← bt_at s (a + j) (by omega), ByteArray.getElem_extract]
theorem pbt_left (s t : ByteArray) (j : Nat) (h : j < s.size) : bt (s ++ t) j = bt s j := by
  unfold bt
  rw [dif_pos (by rw [ByteArray.size_append]; omega), dif_pos h]
  congr 1
  exact ByteArray.getElem_append_left (by omega)
theorem pbt_right (s t : ByteArray) (j : Nat) (h : j < t.size) : bt (s ++ t) (s.size + j) = bt t j := by
  unfold bt
  rw [dif_pos (by rw [ByteArray.size_append]; omega), dif_pos h]
  congr 1
  rw [ByteArray.getElem_append_right (by omega)]
  congr 1; omega
theorem txt_no_bar {s : ByteArray} (h : Txt s) (j : Nat) (hj : j < s.size) : bt s j ≠ 47 := by
  have := h.2.2 j hj; omega
theorem ztx_no_bar {s : ByteArray} {z : Int} (h : ZTx s z) (j : Nat) (hj : j < s.size) : bt s j ≠ 47 := by
  rcases h with ⟨_, h, _⟩ | ⟨_, t, rfl, h, _⟩
  · exact txt_no_bar h j hj
  · have e : (ByteArray.mk #[45]).size = 1 := rfl
    unfold minus at hj ⊢
    rw [ByteArray.size_append, e] at hj
    by_cases h0 : j = 0
    · rw [h0, pbt_left _ _ _ (by omega)]; decide
    · obtain ⟨i, rfl⟩ : ∃ i, j = (ByteArray.mk #[45]).size + i := ⟨j - 1, by omega⟩
      rw [pbt_right _ _ _ (by omega)]
      exact txt_no_bar h i (by omega)
theorem slash_size (a b : ByteArray) : (slash a b).size = a.size + 1 + b.size := by
  unfold slash
  rw [ByteArray.size_append, ByteArray.size_append]; rfl
theorem slash_bar (a b : ByteArray) : bt (slash a b) a.size = 47 := by
  have e : (⟨#[47]⟩ : ByteArray).size = 1 := rfl
  unfold slash
  rw [pbt_left _ _ _ (by rw [ByteArray.size_append]; omega)]
  have := pbt_right a ⟨#[47]⟩ 0 (by omega)
  rw [Nat.add_zero] at this
  rw [this]; rfl
theorem slash_left (a b : ByteArray) (j : Nat) (h : j < a.size) : bt (slash a b) j = bt a j := by
  unfold slash
  rw [pbt_left _ _ _ (by rw [ByteArray.size_append]; omega), pbt_left _ _ _ h]
theorem slash_right (a b : ByteArray) (j : Nat) (h : j < b.size) : bt (slash a b) (a.size + 1 + j) = bt b j := by
  have e : (a ++ (⟨#[47]⟩ : ByteArray)).size = a.size + 1 := by rw [ByteArray.size_append]; rfl
  unfold slash
  rw [← e, pbt_right _ _ _ h]
/-- The parts on both sides of the bar. -/
theorem slash_parts {a b s : ByteArray} {p : Nat} (hs : s = slash a b) (ha : ∀ j, j < a.size → bt a j ≠ 47) (h : CutAt s p) : p = a.size ∧ s.extract 0 p = a ∧ s.extract (p + 1) s.size = b := by
  subst hs
  have hz := slash_size a b
  have hp : p = a.size := by
    rcases Nat.lt_trichotomy p a.size with k | k | k
    · have := h.bar (by omega)
      rw [slash_left _ _ _ k] at this
      exact absurd this (ha p k)
    · exact k
    · exact absurd (slash_bar a b) (h.no _ k)
  subst hp
  refine ⟨rfl, ext_bt (by rw [ByteArray.size_extract]; omega) fun k hk => ?_, ext_bt (by rw [ByteArray.size_extract]; omega) fun k hk => ?_⟩
  · rw [ByteArray.size_extract] at hk
    rw [pbt_extract _ _ _ _ (by omega) (by omega), Nat.zero_add, slash_left _ _ _ (by omega)]
  · rw [ByteArray.size_extract] at hk
    rw [pbt_extract _ _ _ _ (by omega) (by omega), slash_right _ _ _ (by omega)]
theorem parts_slash {s : ByteArray} {p : Nat} (h : CutAt s p) (hp : p < s.size) : s = slash (s.extract 0 p) (s.extract (p + 1) s.size) := by
  have h1 : (s.extract 0 p).size = p := by rw [ByteArray.size_extract]; omega
  have h2 : (s.extract (p + 1) s.size).size = s.size - (p + 1) := by rw [ByteArray.size_extract]; omega
  refine ext_bt (by rw [slash_size]; omega) fun k hk => ?_
  rcases Nat.lt_trichotomy k p with e | e | e
  · rw [slash_left _ _ _ (by omega), pbt_extract _ _ _ _ (by omega) (by omega), Nat.zero_add]
  · have := slash_bar (s.extract 0 p) (s.extract (p + 1) s.size)
    rw [h1] at this
    rw [e, this]; exact h.bar hp
  · obtain ⟨i, rfl⟩ : ∃ i, k = p + 1 + i := ⟨k - (p + 1), by omega⟩
    have := slash_right (s.extract 0 p) (s.extract (p + 1) s.size) i (by omega)
    rw [h1] at this
    rw [this, pbt_extract _ _ _ _ (by omega) (by omega)]
/-- s is the text of the fraction n / d in its lowest terms. -/
structure Can (s : ByteArray) (n d : Int) : Prop where
  tx : QTx s n d
  pos : 1 ≤ d
  cop : Nat.gcd n.natAbs d.natAbs = 1
theorem can_whole {s : ByteArray} {n d : Int} (h : CutAt s s.size) : Can s n d ↔ d = 1 ∧ ZTx s n := by
  constructor
  · rintro ⟨⟨h1, h2⟩ | ⟨h1, a, b, h2, h3, h4⟩, hp, hc⟩
    · exact ⟨h1, h2⟩
    · have := slash_size a b
      have e := slash_bar a b
      rw [← h4] at this e
      exact absurd e (h.no a.size (by omega))
  · rintro ⟨rfl, h2⟩
    exact ⟨Or.inl ⟨rfl, h2⟩, by omega, by simp⟩
theorem can_parts {s : ByteArray} {p : Nat} {n d : Int} (h : CutAt s p) (hp : p < s.size) : Can s n d ↔ (d ≠ 1 ∧ 1 ≤ d ∧ Nat.gcd n.natAbs d.natAbs = 1 ∧ ZTx (s.extract 0 p) n ∧ ZTx (s.extract (p + 1) s.size) d) := by
  constructor
  · rintro ⟨⟨h1, h2⟩ | ⟨h1, a, b, h2, h3, h4⟩, hpos, hc⟩
    · exact absurd (h.bar hp) (ztx_no_bar h2 p hp)
    · obtain ⟨_, e1, e2⟩ := slash_parts h4 (fun j hj => ztx_no_bar h2 j hj) h
      rw [e1, e2]
      exact ⟨h1, hpos, hc, h2, h3⟩
  · rintro ⟨h1, h2, h3, h4, h5⟩
    exact ⟨Or.inr ⟨h1, _, _, h4, h5, parts_slash h hp⟩, h2, h3⟩
theorem low_pos {x y : Int} (h : y ≠ 0) : 1 ≤ lowD x y := by
  have h1 : 0 < y.natAbs / lowG x y := Nat.div_pos (Nat.le_of_dvd (by omega) (Nat.gcd_dvd_right _ _)) (lowG_pos h)
  unfold lowD
  omega
theorem lowN_abs (x y : Int) : (lowN x y).natAbs = x.natAbs / lowG x y := by
  unfold lowN
  rw [Int.natAbs_tdiv]
  congr 1
  split <;> simp
theorem low_cop {x y : Int} (h : y ≠ 0) : Nat.gcd (lowN x y).natAbs (lowD x y).natAbs = 1 := by
  rw [lowN_abs]
  unfold lowD
  rw [Int.natAbs_natCast]
  have h1 := Nat.gcd_div (k := lowG x y) (Nat.gcd_dvd_left x.natAbs y.natAbs) (Nat.gcd_dvd_right x.natAbs y.natAbs)
  rw [h1]
  exact Nat.div_self (lowG_pos h)
theorem low_id {x y : Int} (hp : 1 ≤ y) (hc : Nat.gcd x.natAbs y.natAbs = 1) : lowN x y = x ∧ lowD x y = y := by
  have hg : lowG x y = 1 := hc
  unfold lowN lowD
  rw [hg, if_neg (by omega)]
  simp
  omega
/-- What the fraction x / y's text says. -/
theorem can_low {s t : ByteArray} {x y : Int} {p : Nat} (h : CutAt s p) (hp : p < s.size) (hx : ZTx (s.extract 0 p) x) (hy : ZTx (s.extract (p + 1) s.size) y) (h0 : y ≠ 0) (ht : QTx t (lowN x y) (lowD x y)) : (t = s → Can s (lowN x y) (lowD x y)) ∧ (t ≠ s → ∀ n d, ¬ Can s n d) := by
  refine ⟨fun e => ⟨by rw [← e]; exact ht, low_pos h0, low_cop h0⟩, fun e n d k => ?_⟩
  have k2 := k
  rw [can_parts h hp] at k2
  obtain ⟨_, k3, k4, k5, k6⟩ := k2
  have e1 := k5.uniq hx
  have e2 := k6.uniq hy
  subst e1
  subst e2
  obtain ⟨l1, l2⟩ := low_id k3 k4
  rw [l1, l2] at ht
  exact e (ht.inj k.tx)
/-- What stands under the bar; 1, if there is none. -/
def underT (s : ByteArray) (p : Nat) : ByteArray := if p < s.size then s.extract (p + 1) s.size else ⟨#[49]⟩
theorem extract_all {s : ByteArray} {p : Nat} (h : p = s.size) : s.extract 0 p = s := by
  subst h
  exact ext_bt (by rw [ByteArray.size_extract]; omega) fun k hk => by
    rw [ByteArray.size_extract] at hk
    rw [pbt_extract _ _ _ _ (by omega) (by omega), Nat.zero_add]
theorem under_size {s : ByteArray} {p : Nat} : (underT s p).size ≤ s.size + 1 := by
  unfold underT
  split
  · rw [ByteArray.size_extract]; omega
  · show (1 : Nat) ≤ _; omega
theorem can_no {s : ByteArray} {p : Nat} (h : CutAt s p) (k : (∀ x, ¬ ZTx (s.extract 0 p) x) ∨ ∀ y, ¬ ZTx (underT s p) y) : ∀ n d, ¬ Can s n d := by
  intro n d c
  by_cases hp : p < s.size
  · obtain ⟨_, _, _, c1, c2⟩ := (can_parts h hp).1 c
    rcases k with k | k
    · exact k n c1
    · unfold underT at k
      rw [if_pos hp] at k
      exact k d c2
  · obtain rfl : p = s.size := by have := h.le; omega
    obtain ⟨rfl, c1⟩ := (can_whole h).1 c
    rcases k with k | k
    · rw [extract_all rfl] at k; exact k n c1
    · unfold underT at k
      rw [if_neg hp] at k
      exact k 1 ztx_one
theorem can_zero {s : ByteArray} {p : Nat} (h : CutAt s p) (k : ZTx (underT s p) 0) : ∀ n d, ¬ Can s n d := by
  intro n d c
  by_cases hp : p < s.size
  · obtain ⟨_, c0, _, c1, c2⟩ := (can_parts h hp).1 c
    unfold underT at k
    rw [if_pos hp] at k
    have := c2.uniq k
    omega
  · unfold underT at k
    rw [if_neg hp] at k
    have := k.uniq ztx_one
    omega
theorem can_gen {s t : ByteArray} {x y : Int} {p : Nat} (h : CutAt s p) (hx : ZTx (s.extract 0 p) x) (hy : ZTx (underT s p) y) (h0 : y ≠ 0) (ht : QTx t (lowN x y) (lowD x y)) : (t = s → Can s (lowN x y) (lowD x y)) ∧ (t ≠ s → ∀ n d, ¬ Can s n d) := by
  by_cases hp : p < s.size
  · unfold underT at hy
    rw [if_pos hp] at hy
    exact can_low h hp hx hy h0 ht
  · obtain rfl : p = s.size := by have := h.le; omega
    unfold underT at hy
    rw [if_neg hp] at hy
    rw [extract_all rfl] at hx
    have e := hy.uniq ztx_one
    subst e
    obtain ⟨l1, l2⟩ := low_id (x := x) (y := 1) (by omega) (by simp)
    rw [l1, l2] at ht ⊢
    have hq : QTx s x 1 := Or.inl ⟨rfl, hx⟩
    exact ⟨fun _ => ⟨hq, by omega, by simp⟩, fun e => absurd (ht.inj hq) e⟩
theorem byteArr (a : ByteArray) : (⟨a.data.toList.toArray⟩ : ByteArray) = a := by cases a; simp
theorem bt_data (s : ByteArray) (j : Nat) (h : j < s.size) : s.data.toList[j]? = some (s[j]'h) := by
  rw [Array.getElem?_toList]
  exact Array.getElem?_eq_getElem h
theorem pbt_list (l : List UInt8) (j : Nat) (h : j < l.length) : bt ⟨l.toArray⟩ j = (l[j]'h).toNat := by
  have hs : j < (⟨l.toArray⟩ : ByteArray).size := by simpa [ByteArray.size] using h
  rw [← bt_at _ j hs]
  rfl
theorem psize_list (l : List UInt8) : (⟨l.toArray⟩ : ByteArray).size = l.length := by simp [ByteArray.size]
theorem bt_toList (s : ByteArray) (j : Nat) (h : j < s.data.toList.length) : (s.data.toList[j]'h).toNat = bt s j := by
  have h2 : j < s.size := h
  rw [← bt_at s j h2]
  rfl
/-- What strings.Cut answers at a bar. -/
theorem cut_bar (s : ByteArray) : ∃ p, CutAt s p ∧ (⟨(Lib.cut s.data.toList (⟨#[47]⟩ : ByteArray).data.toList).1.toArray⟩ : ByteArray) = s.extract 0 p ∧ (p < s.size → (⟨(Lib.cut s.data.toList (⟨#[47]⟩ : ByteArray).data.toList).2.1.toArray⟩ : ByteArray) = s.extract (p + 1) s.size) ∧ (Lib.cut s.data.toList (⟨#[47]⟩ : ByteArray).data.toList).2.2 = decide (p < s.size) := by
  have hi : Lib.index s.data.toList (⟨#[47]⟩ : ByteArray).data.toList = Lib.indexByte s.data.toList 47 := Lib.index_one _ _
  have hl : s.data.toList.length = s.size := rfl
  unfold Lib.cut
  rw [hi]
  rcases Int.lt_or_le (Lib.indexByte s.data.toList 47) 0 with h | h
  · have hm : Lib.indexByte s.data.toList 47 = -1 := by have := Lib.indexByte_ge s.data.toList 47; omega
    have hno := Lib.indexByte_none hm
    refine ⟨s.size, ⟨Nat.le_refl _, fun j hj e => ?_, fun h => absurd h (Nat.lt_irrefl _)⟩, ?_, fun h => absurd h (Nat.lt_irrefl _), ?_⟩
    · refine hno j ?_
      rw [bt_data s j hj]
      congr 1
      rw [← bt_at s j hj] at e
      exact UInt8.toNat_inj.1 e
    · rw [if_neg (by omega), byteArr]
      exact ext_bt (by rw [ByteArray.size_extract]; omega) fun k hk => by rw [pbt_extract _ _ _ _ (by omega) (by omega), Nat.zero_add]
    · rw [if_neg (by omega)]
      simp
  · obtain ⟨p, hp⟩ : ∃ p : Nat, Lib.indexByte s.data.toList 47 = p := ⟨(Lib.indexByte s.data.toList 47).toNat, by omega⟩
    obtain ⟨h1, h2⟩ := Lib.indexByte_some hp
    have hlt : p < s.size := by have := (List.getElem?_eq_some_iff.1 h1).1; omega
    rw [bt_data s p hlt] at h1
    refine ⟨p, ⟨by omega, fun j hj e => ?_, fun _ => ?_⟩, ?_, fun _ => ?_, ?_⟩
    · refine h2 j hj ?_
      rw [bt_data s j (by omega)]
      congr 1
      rw [← bt_at s j (by omega)] at e
      exact UInt8.toNat_inj.1 e
    · rw [← bt_at s p hlt, Option.some.inj h1]; rfl
    · rw [if_pos h, hp]
      have hl2 : (s.data.toList.take (p : Int).toNat).length = p := by rw [List.length_take, hl]; omega
      refine ext_bt (by rw [psize_list, hl2, ByteArray.size_extract]; omega) fun k hk => ?_
      rw [psize_list] at hk
      have hk2 : k < (s.data.toList.take (p : Int).toNat).length := hk
      rw [hl2] at hk2
      rw [pbt_list _ k hk, List.getElem_take, bt_toList, pbt_extract _ _ _ _ (by omega) (by omega), Nat.zero_add]
    · rw [if_pos h, hp]
      have hl2 : (s.data.toList.drop ((p : Int).toNat + (⟨#[47]⟩ : ByteArray).data.toList.length)).length = s.size - (p + 1) := by rw [List.length_drop, hl]; rfl
      refine ext_bt (by rw [psize_list, hl2, ByteArray.size_extract]; omega) fun k hk => ?_
      rw [psize_list] at hk
      have hk2 : k < (s.data.toList.drop ((p : Int).toNat + (⟨#[47]⟩ : ByteArray).data.toList.length)).length := hk
      rw [hl2] at hk2
      rw [pbt_list _ k hk, List.getElem_drop, bt_toList, pbt_extract _ _ _ _ (by omega) (by omega)]
      rfl
    · rw [if_pos h]
      simp [hlt]
end Go.Proofs.YtcdkoadobdgbhaaGreatDoor
/- Fractions, in plain terms: what lowest terms keep, and what the order makes of it. -/
namespace Go.Proofs.YtcdkoadobdgbhaaGreatDoor
set_option linter.unusedVariables false

/-- Numerator and denominator are those of the lowest terms, times one number of the denominator's sign. -/
theorem low_scale {x y : Int} (h : y ≠ 0) : ∃ g : Int, g ≠ 0 ∧ (0 < y → 0 < g) ∧ x = g * lowN x y ∧ y = g * lowD x y := by
  have hg := lowG_pos (x := x) h
  have d1 : lowG x y ∣ x.natAbs := Nat.gcd_dvd_left _ _
  have d2 : lowG x y ∣ y.natAbs := Nat.gcd_dvd_right _ _
  obtain ⟨x', hx⟩ : (lowG x y : Int) ∣ x := Int.ofNat_dvd_left.2 d1
  obtain ⟨y', hy⟩ : (lowG x y : Int) ∣ y := Int.ofNat_dvd_left.2 d2
  have eD : lowD x y = (y'.natAbs : Int) := by
    unfold lowD
    have e : y.natAbs = lowG x y * y'.natAbs := by
      conv => lhs; rw [hy]
      rw [Int.natAbs_mul, Int.natAbs_natCast]
    rw [e, Nat.mul_div_cancel_left _ hg]
  have hg' : (lowG x y : Int) ≠ 0 := by omega
  have hgp : (0 : Int) < (lowG x y : Int) := by omega
  by_cases hn : y < 0
  · have hy' : y' < 0 := by
      by_cases k : y' < 0
      · exact k
      · have := Int.mul_nonneg (Int.le_of_lt hgp) (Int.not_lt.1 k)
        omega
    have eN : lowN x y = -x' := by
      unfold lowN
      rw [if_pos hn]
      have e : -x = (lowG x y : Int) * (-x') := by
        rw [Int.mul_neg, ← hx]
      rw [e, Int.mul_tdiv_cancel_left _ hg']
    refine ⟨-(lowG x y : Int), by omega, fun k => by omega, ?_, ?_⟩
    · rw [eN, Int.neg_mul_neg]; exact hx
    · rw [eD, show (y'.natAbs : Int) = -y' by omega, Int.neg_mul_neg]; exact hy
  · have hy' : 0 < y' := by
      by_cases k : 0 < y'
      · exact k
      · have := Int.mul_nonneg (Int.le_of_lt hgp) (show (0 : Int) ≤ -y' by omega)
        rw [Int.mul_neg] at this
        omega
    have eN : lowN x y = x' := by
      unfold lowN
      rw [if_neg hn]
      have e : x = (lowG x y : Int) * x' := hx
      conv => lhs; arg 1; rw [e]
      rw [Int.mul_tdiv_cancel_left _ hg']
    refine ⟨(lowG x y : Int), by omega, fun _ => hgp, ?_, ?_⟩
    · rw [eN]; exact hx
    · rw [eD, show (y'.natAbs : Int) = y' by omega]; exact hy
end Go.Proofs.YtcdkoadobdgbhaaGreatDoor
/- Fractions, in plain terms: sums, differences and products of what is the same are the same. -/
namespace Go.Proofs.YtcdkoadobdgbhaaGreatDoor
set_option linter.unusedVariables false

theorem pair_same {N D N' D' : Int} (h : 1 ≤ D) (h' : 1 ≤ D') (c : Nat.gcd N.natAbs D.natAbs = 1) (c' : Nat.gcd N'.natAbs D'.natAbs = 1) (e : N * D' = N' * D) : N = N' ∧ D = D' := by
  have e' : N.natAbs * D'.natAbs = N'.natAbs * D.natAbs := by rw [← Int.natAbs_mul, ← Int.natAbs_mul, e]
  have d1 : D.natAbs ∣ D'.natAbs := by
    have : D.natAbs ∣ N.natAbs * D'.natAbs := ⟨N'.natAbs, by rw [e', Nat.mul_comm]⟩
    exact Nat.Coprime.dvd_of_dvd_mul_left (Nat.Coprime.symm c) this
  have d2 : D'.natAbs ∣ D.natAbs := by
    have : D'.natAbs ∣ N'.natAbs * D.natAbs := ⟨N.natAbs, by rw [← e', Nat.mul_comm]⟩
    exact Nat.Coprime.dvd_of_dvd_mul_left (Nat.Coprime.symm c') this
  have e3 := Nat.dvd_antisymm d1 d2
  have e4 : D = D' := by omega
  subst e4
  exact ⟨Int.eq_of_mul_eq_mul_right (show D ≠ 0 by omega) e, rfl⟩
/-- N / D is X / Y in its lowest terms. -/
structure Ev (N D X Y : Int) : Prop where
  pos : 1 ≤ D
  cop : Nat.gcd N.natAbs D.natAbs = 1
  ne : Y ≠ 0
  eq : N * Y = X * D
theorem low_cross {x y : Int} (h : y ≠ 0) : lowN x y * y = x * lowD x y := by
  obtain ⟨g, _, _, h1, h2⟩ := low_scale (x := x) h
  generalize lowN x y = N at *
  generalize lowD x y = D at *
  subst h1
  rw [h2]
  grind
theorem Ev.low {x y X Y : Int} (h : y ≠ 0) (hY : Y ≠ 0) (e : x * Y = X * y) : Ev (lowN x y) (lowD x y) X Y where
  pos := low_pos h
  cop := low_cop h
  ne := hY
  eq := by
    have h1 := low_cross (x := x) h
    generalize lowN x y = N at *
    generalize lowD x y = D at *
    have : y * (N * Y) = y * (X * D) := by grind
    exact Int.eq_of_mul_eq_mul_left h this
theorem Ev.nz {N D X Y N' D' X' Y' : Int} (p : Ev N D X Y) (q : Ev N' D' X' Y') : D * D' ≠ 0 := Int.mul_ne_zero (by have := p.pos; omega) (by have := q.pos; omega)
theorem Ev.add {N D X Y N' D' X' Y' : Int} (p : Ev N D X Y) (q : Ev N' D' X' Y') : Ev (lowN (N * D' + N' * D) (D * D')) (lowD (N * D' + N' * D) (D * D')) (X * Y' + X' * Y) (Y * Y') :=
  Ev.low (p.nz q) (Int.mul_ne_zero p.ne q.ne) (by have := p.eq; have := q.eq; grind)
theorem Ev.same {N D X Y N' D' X' Y' : Int} (p : Ev N D X Y) (q : Ev N' D' X' Y') (h : X * Y' = X' * Y) : N = N' ∧ D = D' := by
  refine pair_same p.pos q.pos p.cop q.cop ?_
  have h1 := p.eq
  have h2 := q.eq
  have hY : Y * Y' ≠ 0 := Int.mul_ne_zero p.ne q.ne
  have : Y * Y' * (N * D') = Y * Y' * (N' * D) := by grind
  exact Int.eq_of_mul_eq_mul_left hY this
theorem Ev.text {N D X Y N' D' X' Y' : Int} {s t : ByteArray} (p : Ev N D X Y) (q : Ev N' D' X' Y') (h : X * Y' = X' * Y) (hs : QTx s N D) (ht : QTx t N' D') : s = t := by
  obtain ⟨rfl, rfl⟩ := p.same q h
  exact hs.inj ht
end Go.Proofs.YtcdkoadobdgbhaaGreatDoor
/- cert: fractions as numbers. -/
namespace Go.Proofs.YtcdkoadobdgbhaaGreatDoor
open Go.RowKit
set_option linter.unusedVariables false
set_option linter.unusedSimpArgs false

theorem num_den_of {N D : Int} (h : 1 ≤ D) (c : Nat.gcd N.natAbs D.natAbs = 1) : (Rat.divInt N D).num = N ∧ ((Rat.divInt N D).den : Int) = D := by
  have hg : D.gcd N = 1 := by show Nat.gcd D.natAbs N.natAbs = 1; rw [Nat.gcd_comm]; exact c
  constructor
  · rw [Rat.num_divInt, hg, Int.sign_eq_one_of_pos (by omega)]; simp
  · rw [Rat.den_divInt, if_neg (by omega), hg]; simp; omega
/-- -1, 0, 1: below, the same, above. -/
def cmpR (p q : Rat) : Int := if p < q then -1 else if q < p then 1 else 0
def sgnR (p : Rat) : Int := if p < 0 then -1 else if 0 < p then 1 else 0
theorem cmp_rat (p q : Rat) : cmpZ (p.num * q.den) (q.num * p.den) = cmpR p q := by
  unfold cmpZ cmpR
  simp only [Rat.lt_iff]
theorem sgn_rat (p : Rat) : signZ p.num = sgnR p := by
  unfold signZ sgnR
  have h1 : p < 0 ↔ p.num < 0 := by rw [Rat.lt_iff]; simp
  have h2 : 0 < p ↔ 0 < p.num := by rw [Rat.lt_iff]; simp
  simp only [h1, h2]
/-- v is the number q, as the program keeps it. -/
def QIs (w : World) (v : Value) (q : Rat) (K : Nat) : Prop := RatIs w v q.num q.den K
/-- v is the number q, as the document keeps it. -/
def TIs (w : World) (v : Value) (q : Rat) (K : Nat) : Prop := TRatIs w v q.num q.den K
theorem QIs.below {w w' : World} {v : Value} {q : Rat} {K : Nat} (h : QIs w v q K) (b : Below w.heap.size w w') : QIs w' v q K := RatIs.below h b
theorem TIs.below {w w' : World} {v : Value} {q : Rat} {K : Nat} (h : TIs w v q K) (b : Below w.heap.size w w') : TIs w' v q K := TRatIs.below h b
theorem QIs.mono {w : World} {v : Value} {q : Rat} {K K' : Nat} (h : QIs w v q K) (hk : K ≤ K') : QIs w v q K' := RatIs.mono h hk
theorem TIs.mono {w : World} {v : Value} {q : Rat} {K K' : Nat} (h : TIs w v q K) (hk : K ≤ K') : TIs w v q K' := TRatIs.mono h hk
/-- Numerator and denominator are below 10^m. -/
def Lt10 (m : Nat) (q : Rat) : Prop := q.num.natAbs < 10 ^ m ∧ q.den < 10 ^ m
theorem pow_32 (m : Nat) : 10 ^ m ≤ 4294967296 ^ (m / 9 + 1) := by
  have h1 : (10 : Nat) ^ m ≤ 10 ^ (9 * (m / 9 + 1)) := Nat.pow_le_pow_right (by decide) (by omega)
  rw [Nat.pow_mul] at h1
  exact Nat.le_trans h1 (Nat.pow_le_pow_left (by decide) _)
theorem pow_9 (m : Nat) : 10 ^ m ≤ 1000000000 ^ (m / 9 + 1) := by
  have h1 : (10 : Nat) ^ m ≤ 10 ^ (9 * (m / 9 + 1)) := Nat.pow_le_pow_right (by decide) (by omega)
  rw [Nat.pow_mul] at h1
  exact h1
theorem QIs.fit {w : World} {v : Value} {q : Rat} {K m : Nat} (h : QIs w v q K) (hm : Lt10 m q) : QIs w v q (m / 9 + 1) := by
  obtain ⟨a1, l1, c1, a2, l2, c2, h1, ⟨b1, x1, y1, e1, n1⟩, ⟨b2, x2, y2, e2, n2⟩⟩ := h
  have hp := pow_32 m
  refine ⟨a1, l1, c1, a2, l2, c2, h1, ⟨b1, x1, y1, e1, n1.fit (Nat.lt_of_lt_of_le hm.1 hp)⟩, ⟨b2, x2, y2, e2, n2.fit ?_⟩⟩
  have := q.den_pos
  have := hm.2
  omega
theorem TIs.fit {w : World} {v : Value} {q : Rat} {K m : Nat} (h : TIs w v q K) (hm : Lt10 m q) : TIs w v q (m / 9 + 1) := by
  obtain ⟨a1, l1, c1, a2, l2, c2, d, h1, ⟨b1, x1, y1, e1, n1⟩, ⟨b2, x2, y2, e2, n2⟩, hd⟩ := h
  have hp := pow_9 m
  refine ⟨a1, l1, c1, a2, l2, c2, d, h1, ⟨b1, x1, y1, e1, n1.fit (Nat.lt_of_lt_of_le hm.1 hp)⟩, ⟨b2, x2, y2, e2, n2.fit ?_⟩, hd⟩
  have := q.den_pos
  have := hm.2
  rcases hd with hd | hd <;> omega
theorem Lt10.mono {m m' : Nat} {q : Rat} (h : Lt10 m q) (hm : m ≤ m') : Lt10 m' q :=
  ⟨Nat.lt_of_lt_of_le h.1 (Nat.pow_le_pow_right (by decide) hm), Nat.lt_of_lt_of_le h.2 (Nat.pow_le_pow_right (by decide) hm)⟩
theorem abs_div_le (x : Int) (g : Nat) : (x / (g : Int)).natAbs ≤ x.natAbs := by
  rcases Nat.eq_zero_or_pos g with rfl | h
  · simp
  · rcases Int.lt_or_le x 0 with hx | hx
    · have h1 : x ≤ x / (g : Int) := by
        have := Int.le_ediv_of_mul_le (a := x) (b := x) (c := (g : Int)) (by omega) (by
          have : x * (g : Int) ≤ x * 1 := Int.mul_le_mul_of_nonpos_left (by omega) (by omega)
          omega)
        exact this
      have h2 : x / (g : Int) ≤ 0 := by
        have := Int.ediv_le_ediv (c := (g : Int)) (by omega) (show x ≤ 0 by omega)
        simpa using this
      omega
    · have h1 : x / (g : Int) ≤ x := Int.ediv_le_self _ hx
      have h2 : 0 ≤ x / (g : Int) := Int.ediv_nonneg hx (by omega)
      omega
theorem Lt10.add {a b : Nat} {p q : Rat} (hp : Lt10 a p) (hq : Lt10 b q) : Lt10 (a + b + 1) (p + q) := by
  have e : 10 ^ (a + b + 1) = 10 ^ a * 10 ^ b * 10 := by rw [Nat.pow_succ, Nat.pow_add]
  have h1 : p.num.natAbs * q.den < 10 ^ a * 10 ^ b := Nat.mul_lt_mul'' hp.1 hq.2
  have h2 : q.num.natAbs * p.den < 10 ^ a * 10 ^ b := by rw [Nat.mul_comm (10 ^ a)]; exact Nat.mul_lt_mul'' hq.1 hp.2
  have h3 : p.den * q.den < 10 ^ a * 10 ^ b := Nat.mul_lt_mul'' hp.2 hq.2
  constructor
  · rw [Rat.num_add, e]
    refine Nat.lt_of_le_of_lt (abs_div_le _ _) ?_
    refine Nat.lt_of_le_of_lt (Int.natAbs_add_le _ _) ?_
    rw [Int.natAbs_mul, Int.natAbs_mul, Int.natAbs_natCast, Int.natAbs_natCast]
    omega
  · rw [Rat.den_add, e]
    exact Nat.lt_of_le_of_lt (Nat.div_le_self _ _) (by omega)
theorem Lt10.neg {a : Nat} {p : Rat} (hp : Lt10 a p) : Lt10 a (-p) := ⟨by rw [Rat.neg_num, Int.natAbs_neg]; exact hp.1, by rw [Rat.neg_den]; exact hp.2⟩
theorem Lt10.int {z : Int} (h : -10000000000000000000 < z) (h' : z < 10000000000000000000) : Lt10 19 (z : Rat) := ⟨by rw [Rat.num_intCast]; show z.natAbs < 10000000000000000000; omega, by rw [Rat.den_intCast]; decide⟩
theorem Lt10.zero : Lt10 1 0 := ⟨by decide, by decide⟩
theorem Lt10.one : Lt10 1 1 := ⟨by decide, by decide⟩
end Go.Proofs.YtcdkoadobdgbhaaGreatDoor
/- rat: Parse. -/
namespace Go.Proofs.YtcdkoadobdgbhaaGreatDoor
open Go.RowKit
set_option linter.unusedVariables false
set_option maxRecDepth 100000
set_option linter.unusedSimpArgs false
attribute [local go_sem ↓] Go.wp_at_zero Go.wp_at_succ

/-- The library's own variable is some number. -/
def Mx (w : World) : Prop := ∃ m, w.cell? ⟨0, 0, none⟩ = some (.int .i64 m)
theorem Mx.below {w w' : World} (h : Mx w) (hb : Below w.heap.size w w') : Mx w' := by
  obtain ⟨m, hm⟩ := h
  exact ⟨m, (hb.cell (World.block_lt_of_cell? _ _ hm)).trans hm⟩
theorem cut_any (s : ByteArray) (w : World) (hs : s.size ≤ 100000) (hm : Mx w) :
    Calls Tryz.prog 116 #[.string s, .string ⟨#[47]⟩] w fun e w' => (∃ p u, CutAt s p ∧ e = .returned (.tuple #[.string (s.extract 0 p), .string u, .bool (decide (p < s.size))]) ∧ (p < s.size → u = underT s p) ∧ (¬ p < s.size → underT s p = ⟨#[49]⟩)) ∧ Below w.heap.size w w' := by
  obtain ⟨m, hm⟩ := hm
  refine (Tryz.strings_Cut s ⟨#[47]⟩ m w (by omega) hm).mono ?_
  rintro e w' ⟨rfl, n, rfl⟩
  obtain ⟨p, h1, h2, h3, h4⟩ := cut_bar s
  exact ⟨⟨p, _, h1, by rw [h2, h4], fun h => by unfold underT; rw [if_pos h]; exact h3 h, fun h => by unfold underT; rw [if_neg h]⟩, below_drewN (Below.refl _ _) n⟩
theorem p4_free {w : World} {b : Nat} {x0 x1 x2 x3 : Value} {t : TypeId} (h : w.heap[b]? = some (.cells #[x0, x1, x2, x3] t (0, 0))) (k : Nat) : w.frozen? ⟨b, k, none⟩ = false := by simp [World.frozen?, h]
theorem p4_set {w : World} {r : Nat} {t : TypeId} {y0 y1 y2 y3 : Value} (h : w.heap[r]? = some (.cells #[y0, y1, y2, y3] t (0, 0))) (x0 x1 x2 x3 : Value) : ((((w.setCell ⟨r, 0, none⟩ x0).setCell ⟨r, 1, none⟩ x1).setCell ⟨r, 2, none⟩ x2).setCell ⟨r, 3, none⟩ x3).heap[r]? = some (.cells #[x0, x1, x2, x3] t (0, 0)) := by
  have hlt := lt_of_block h
  have h' : w.heap[r] = .cells #[y0, y1, y2, y3] t (0, 0) := by simpa [Array.getElem?_eq_getElem hlt] using h
  simp [World.setCell, Array.getElem_modify, hlt, h']
theorem p4_below {B b : Nat} {w X : World} (h : Below B w X) (hB : B ≤ b) (v0 v1 v2 v3 : Value) : Below B w ((((X.setCell ⟨b, 0, none⟩ v0).setCell ⟨b, 1, none⟩ v1).setCell ⟨b, 2, none⟩ v2).setCell ⟨b, 3, none⟩ v3) :=
  (((h.setCell (p := ⟨b, 0, none⟩) hB _).setCell (p := ⟨b, 1, none⟩) hB _).setCell (p := ⟨b, 2, none⟩) hB _).setCell (p := ⟨b, 3, none⟩) hB _
set_option maxHeartbeats 4000000 in
theorem qparse_any (s : ByteArray) (w : World) (hs : s.size ≤ 100000) (hm : Mx w) (htab : Tab w) :
    Calls Tryz.prog 74 #[.string s] w fun e w' => ((∃ n d v, Can s n d ∧ e = .returned (.tuple #[v, .int .i64 0]) ∧ RatIs w' v n d (s.size / 9 + 8)) ∨ ((∀ n d, ¬ Can s n d) ∧ e = .returned (.tuple #[.agg #[.slice none 0 0, .bool false, .slice none 0 0, .bool false], .int .i64 10]))) ∧ Below w.heap.size w w' := by
  go_enter Tryz.func74, Tryz.ntmps74
  go_wp2_with fail
  have r0 := box_new w (Obj.cells #[.slice none 0 0, .bool false, .slice none 0 0, .bool false] 73)
  have b0 := (Below.refl w.heap.size w).alloc (Nat.le_refl _) (Obj.cells #[.slice none 0 0, .bool false, .slice none 0 0, .bool false] 73)
  generalize w.alloc (Obj.cells #[Value.slice none 0 0, .bool false, .slice none 0 0, .bool false] 73) = W at *
  refine (cut_any s W hs (hm.below b0)).mono ?_
  rintro e w1 ⟨⟨p, u, hcut, rfl, hu1, hu2⟩, b1⟩
  have hA : (s.extract 0 p).size ≤ s.size := by rw [ByteArray.size_extract]; omega
  have hU := under_size (s := s) (p := p)
  have HC := hid hcut
  obtain ⟨A, hAe⟩ : ∃ A, A = s.extract 0 p := ⟨_, rfl⟩
  obtain ⟨U, hUe⟩ : ∃ U, U = underT s p := ⟨_, rfl⟩
  rw [← hAe] at hA ⊢
  rw [← hUe] at hu1 hu2 hU
  have HAU := hid (And.intro hAe hUe)
  clear hAe hUe hcut
  have r1 := (b1.block _ (lt_of_block r0)).trans r0
  have B1 := chain2 b0 b1
  have hpa := fun v => nparse_both A v (by omega)
  have hpu := fun v => nparse_both U v (by omega)
  clear r0 b0 b1
  have HT := htab
  rcases (show p < s.size ∨ ¬ p < s.size by omega) with hp | hp
  case' inl =>
    rw [decide_eq_true hp]
    obtain rfl := hu1 hp
  case' inr =>
    rw [decide_eq_false hp]
    have e := hu2 hp
    subst e
  all_goals
    clear hu1 hu2 hp
    go_wp2_with fail
    refine (hpa w1).mono ?_
    rintro e w2 ⟨ao, l, c, d, rfl, hna, b2⟩
    have r2 := (b2.block _ (lt_of_block r1)).trans r1
    have B2 := chain2 B1 b2
    have t0 := box_new w2 (Obj.cells #[.slice ao l c, .bool d] 71)
    have b3 := (Below.refl w2.heap.size w2).alloc (Nat.le_refl _) (Obj.cells #[.slice ao l c, .bool d] 71)
    go_wp2_with fail
    generalize w2.alloc (Obj.cells #[.slice ao l c, .bool d] 71) = w3 at *
    have r3 := (b3.block _ (lt_of_block r2)).trans r2
    have B3 := chain2 B2 b3
    refine (hpu w3).mono ?_
    rintro e w4 ⟨ao2, l2, c2, d2, rfl, hnb, b4⟩
    have r4 := (b4.block _ (lt_of_block r3)).trans r3
    have t4 := (b4.block _ (lt_of_block t0)).trans t0
    have B4 := chain2 B3 b4
    have u0 := box_new w4 (Obj.cells #[.slice ao2 l2 c2, .bool d2] 71)
    have b5 := (Below.refl w4.heap.size w4).alloc (Nat.le_refl _) (Obj.cells #[.slice ao2 l2 c2, .bool d2] 71)
    have hlt1 : w.heap.size < w2.heap.size := lt_of_block r2
    have hlt2 : w2.heap.size < w4.heap.size := lt_of_block t4
    have B5 := chain2 B4 b5
    have r5 := (b5.block _ (lt_of_block r4)).trans r4
    have t5 := (b5.block _ (lt_of_block t4)).trans t4
    clear r1 r2 r3 t0 t4 hpa hpu
    have hcase : (zE A = 10 ∧ ∀ n d, ¬ Can s n d) ∨ (zE A = 0 ∧ ∃ x, ZTx A x) := by
      rcases zE_cases A with ⟨k1, k2⟩ | k1
      · exact Or.inr ⟨k1, k2⟩
      · refine Or.inl ⟨k1, can_no HC.out (Or.inl fun x hx => ?_)⟩
        rw [← HAU.out.1] at hx
        have : zE A = 0 := by unfold zE; rw [if_pos ⟨x, hx⟩]
        omega
    have hcase2 : (zE (underT s p) = 10 ∧ ∀ n d, ¬ Can s n d) ∨ (zE (underT s p) = 0 ∧ ∃ y, ZTx (underT s p) y) := by
      rcases zE_cases (underT s p) with ⟨k1, k2⟩ | k1
      · exact Or.inr ⟨k1, k2⟩
      · refine Or.inl ⟨k1, can_no HC.out (Or.inr fun x hx => ?_)⟩
        have : zE (underT s p) = 0 := by unfold zE; rw [if_pos ⟨x, hx⟩]
        omega
    rcases hcase with ⟨k1, k2⟩ | ⟨k1, x, hx⟩
    · rw [k1]
      clear hcase2
      have HK := hid k2
      clear k1 k2 hna hnb
      obtain ⟨x0, x1, x2, x3⟩ := four_cell r5
      have fr := p4_free r5
      have g := four_cell (p4_set r5 (.slice none 0 0) (.bool false) (.slice none 0 0) (.bool false))
      have B6 := p4_below B5 (Nat.le_refl _) (.slice none 0 0) (.bool false) (.slice none 0 0) (.bool false)
      obtain ⟨g0, g1, g2, g3⟩ := g
      have v4 := p4_set r4 (.slice none 0 0) (.bool false) (.slice none 0 0) (.bool false)
      have B7 := (p4_below B4 (Nat.le_refl _) (.slice none 0 0) (.bool false) (.slice none 0 0) (.bool false)).alloc (p4_below B4 (Nat.le_refl _) (.slice none 0 0) (.bool false) (.slice none 0 0) (.bool false)).size (Obj.cells #[.slice ao2 l2 c2, .bool d2] 71)
      have v5 := four_cell ((Below.heap_alloc _ (Obj.cells #[.slice ao2 l2 c2, .bool d2] 71) _ (lt_of_block v4)).trans v4)
      obtain ⟨y0, y1, y2, y3⟩ := v5
      go_wp2
      refine bodyPost_ret (v := .tuple #[.agg #[.slice none 0 0, .bool false, .slice none 0 0, .bool false], .int .i64 10]) ?_ rfl ⟨Or.inr ⟨HK.out, rfl⟩, ?_⟩
      · simp [results, Tryz.results74, go_sem, g0, g1, g2, g3, y0, y1, y2, y3]
      · first | exact B6 | exact B7
    · rw [k1]
      clear k1
      rcases hcase2 with ⟨k1, k2⟩ | ⟨k1, y, hy⟩
      · rw [← HAU.out.2] at k1
        rw [k1]
        have HK := hid k2
        clear k1 k2 hna hnb
        obtain ⟨x0, x1, x2, x3⟩ := four_cell r5
        have fr := p4_free r5
        have g := four_cell (p4_set r5 (.slice none 0 0) (.bool false) (.slice none 0 0) (.bool false))
        have B6 := p4_below B5 (Nat.le_refl _) (.slice none 0 0) (.bool false) (.slice none 0 0) (.bool false)
        obtain ⟨g0, g1, g2, g3⟩ := g
        have v4 := p4_set r4 (.slice none 0 0) (.bool false) (.slice none 0 0) (.bool false)
        have B7 := (p4_below B4 (Nat.le_refl _) (.slice none 0 0) (.bool false) (.slice none 0 0) (.bool false)).alloc (p4_below B4 (Nat.le_refl _) (.slice none 0 0) (.bool false) (.slice none 0 0) (.bool false)).size (Obj.cells #[.slice ao2 l2 c2, .bool d2] 71)
        have v5 := four_cell ((Below.heap_alloc _ (Obj.cells #[.slice ao2 l2 c2, .bool d2] 71) _ (lt_of_block v4)).trans v4)
        obtain ⟨y0, y1, y2, y3⟩ := v5
        go_wp2
        refine bodyPost_ret (v := .tuple #[.agg #[.slice none 0 0, .bool false, .slice none 0 0, .bool false], .int .i64 10]) ?_ rfl ⟨Or.inr ⟨HK.out, rfl⟩, ?_⟩
        · simp [results, Tryz.results74, go_sem, g0, g1, g2, g3, y0, y1, y2, y3]
        · first | exact B6 | exact B7
      · rw [← HAU.out.2] at k1
        rw [k1]
        clear k1
        have Nx := (hna x hx).mono (show A.size / 9 + 1 ≤ s.size / 9 + 2 by omega)
        have Ny : NumIs w4 (.agg #[.slice ao2 l2 c2, .bool d2]) y (s.size / 9 + 2) := by
          have := hnb y (by rw [HAU.out.2]; exact hy)
          exact this.mono (by omega)
        have Nx5 := Nx.below (chain2 (chain2 b3 b4) b5)
        have Ny5 := Ny.below b5
        clear hna hnb Nx Ny
        obtain ⟨x0, x1, x2, x3⟩ := four_cell r5
        have p0 := two_cell0 t5
        have p1 := two_cell1 t5
        have q0 := two_cell0 u0
        have q1 := two_cell1 u0
        go_wp2_with fail
        refine (qmake_any _ _ _ x y (s.size / 9 + 2) (by omega) Nx5 Ny5).mono ?_
        rintro e w6 ⟨⟨a6, m6, c6, d6, a7, m7, c7, d7, rfl, R6⟩, b6⟩
        have r6 := (b6.block _ (lt_of_block r5)).trans r5
        have B6 := chain2 B5 b6
        clear x0 x1 x2 x3 p0 p1 q0 q1 r5 t5 u0 Nx5 Ny5 b6 B5 b5 r4 B4
        have f0 := box_new w6 (Obj.cells #[.slice a6 m6 c6, .bool d6, .slice a7 m7 c7, .bool d7] 73)
        have b7 := (Below.refl w6.heap.size w6).alloc (Nat.le_refl _) (Obj.cells #[.slice a6 m6 c6, .bool d6, .slice a7 m7 c7, .bool d7] 73)
        have B7 := chain2 B6 b7
        have R7 := R6.below b7
        have r7 := (b7.block _ (lt_of_block r6)).trans r6
        have T7 := htab.below B7
        clear R6
        by_cases h0 : y = 0
        · subst h0
          rw [show mkE 0 = 12 from rfl]
          have HK := hid (can_zero HC.out hy)
          obtain ⟨x0, x1, x2, x3⟩ := four_cell r7
          have fr := p4_free r7
          have g := four_cell (p4_set r7 (.slice none 0 0) (.bool false) (.slice none 0 0) (.bool false))
          have B8 := p4_below B7 (Nat.le_refl _) (.slice none 0 0) (.bool false) (.slice none 0 0) (.bool false)
          obtain ⟨g0, g1, g2, g3⟩ := g
          have v4 := p4_set r6 (.slice none 0 0) (.bool false) (.slice none 0 0) (.bool false)
          have B9 := (p4_below B6 (Nat.le_refl _) (.slice none 0 0) (.bool false) (.slice none 0 0) (.bool false)).alloc (p4_below B6 (Nat.le_refl _) (.slice none 0 0) (.bool false) (.slice none 0 0) (.bool false)).size (Obj.cells #[.slice a6 m6 c6, .bool d6, .slice a7 m7 c7, .bool d7] 73)
          have v5 := four_cell ((Below.heap_alloc _ (Obj.cells #[.slice a6 m6 c6, .bool d6, .slice a7 m7 c7, .bool d7] 73) _ (lt_of_block v4)).trans v4)
          obtain ⟨y0, y1, y2, y3⟩ := v5
          clear R7
          go_wp2
          refine bodyPost_ret (v := .tuple #[.agg #[.slice none 0 0, .bool false, .slice none 0 0, .bool false], .int .i64 10]) ?_ rfl ⟨Or.inr ⟨HK.out, rfl⟩, ?_⟩
          · simp [results, Tryz.results74, go_sem, g0, g1, g2, g3, y0, y1, y2, y3]
          · first | exact B8 | exact B9
        · rw [show mkE y = 0 by unfold mkE; rw [if_neg h0]]
          rw [mkN, if_neg h0, mkD, if_neg h0] at R7
          obtain ⟨x0, x1, x2, x3⟩ := four_cell f0
          go_wp2_with fail
          refine (qtext_any _ _ _ _ _ (by omega) R7 T7).mono ?_
          rintro e w8 ⟨⟨t, rfl, ht⟩, b8⟩
          obtain ⟨G1, G2⟩ := can_gen HC.out (show ZTx (s.extract 0 p) x by rw [← HAU.out.1]; exact hx) hy h0 ht
          have f8 := (b8.block _ (lt_of_block f0)).trans f0
          have r8 := (b8.block _ (lt_of_block r7)).trans r7
          have B8 := chain2 B7 b8
          have R8 := R7.below b8
          have hne : w.heap.size ≠ w6.heap.size := by have := lt_of_block r6; omega
          clear f0 r7 B7 R7 T7 x0 x1 x2 x3 b7 b8 hy hx ht
          generalize w6.heap.size = k at *
          by_cases ht2 : t = s
          · have HK := hid (G1 ht2)
            subst ht2
            obtain ⟨x0, x1, x2, x3⟩ := four_cell r8
            obtain ⟨z0, z1, z2, z3⟩ := four_cell f8
            have fr := p4_free r8
            have g := four_cell (p4_set r8 (.slice a6 m6 c6) (.bool d6) (.slice a7 m7 c7) (.bool d7))
            have B9 := p4_below B8 (Nat.le_refl _) (.slice a6 m6 c6) (.bool d6) (.slice a7 m7 c7) (.bool d7)
            have R9 := R8.set (w' := (((w8.setCell ⟨w.heap.size, 0, none⟩ (.slice a6 m6 c6)).setCell ⟨w.heap.size, 1, none⟩ (.bool d6)).setCell ⟨w.heap.size, 2, none⟩ (.slice a7 m7 c7)).setCell ⟨w.heap.size, 3, none⟩ (.bool d7)) r8 (fun b hb => by rw [Below.heap_setCell _ _ _ b hb, Below.heap_setCell _ _ _ b hb, Below.heap_setCell _ _ _ b hb, Below.heap_setCell _ _ _ b hb])
            obtain ⟨g0, g1, g2, g3⟩ := g
            clear G1 G2
            go_wp2
            refine bodyPost_ret (v := .tuple #[.agg #[.slice a6 m6 c6, .bool d6, .slice a7 m7 c7, .bool d7], .int .i64 0]) ?_ rfl ⟨Or.inl ⟨_, _, _, HK.out, rfl, R9.mono (by omega)⟩, ?_⟩
            · simp [results, Tryz.results74, go_sem, g0, g1, g2, g3]
            · exact B9
          · have HK := hid (G2 ht2)
            have hb1 : (t.toList == s.toList) = false := beq_eq_false_iff_ne.2 fun h => ht2 (tlq_inj h)
            obtain ⟨x0, x1, x2, x3⟩ := four_cell r8
            have fr := p4_free r8
            have g := four_cell (p4_set r8 (.slice none 0 0) (.bool false) (.slice none 0 0) (.bool false))
            have B9 := p4_below B8 (Nat.le_refl _) (.slice none 0 0) (.bool false) (.slice none 0 0) (.bool false)
            obtain ⟨g0, g1, g2, g3⟩ := g
            clear G1 G2 R8
            go_wp2
            refine bodyPost_ret (v := .tuple #[.agg #[.slice none 0 0, .bool false, .slice none 0 0, .bool false], .int .i64 10]) ?_ rfl ⟨Or.inr ⟨HK.out, rfl⟩, ?_⟩
            · simp [results, Tryz.results74, go_sem, g0, g1, g2, g3]
            · exact B9
end Go.Proofs.YtcdkoadobdgbhaaGreatDoor
