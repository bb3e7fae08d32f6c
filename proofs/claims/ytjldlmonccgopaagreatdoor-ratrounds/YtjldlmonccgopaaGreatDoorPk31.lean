/- PMath, PVal. -/
import Derived.Test.YtjldlmonccgopaaGreatDoorZQMakesWalk
import Derived.Lib.IndexMore
import Derived.Lib.IndexBytes
import Derived.Lib.IndexLaws
/- Texts of fractions, in plain terms: where the bar stands, and which fraction a text is. -/
namespace Go.Proofs.YtjldlmonccgopaaGreatDoor
set_option linter.unusedVariables false
set_option linter.unusedSimpArgs false

/-- The first bar of s stands at p; at its end, if there is none. -/
structure CutAt (s : ByteArray) (p : Nat) : Prop where
  le : p ≤ s.size
  no : ∀ j, j < p → bt s j ≠ 47
  bar : p < s.size → bt s p = 47
theorem pbt_extract (s : ByteArray) (a b j : Nat) (hb : b ≤ s.size) (h : a + j < b) : bt (s.extract a b) j = bt s (a + j) := by
  have h1 : j < (s.extract a b).size := by rw [ByteArray.size_extract]; omega
  rw [← bt_at _ j h1, ← bt_at s (a + j) (by omega), ByteArray.getElem_extract]
theorem pbt_left (s t : ByteArray) (j : Nat) (h : j < s.size) : bt (s ++ t) j = bt s j := by
  unfold bt
  rw [dif_pos (by rw [ByteArray.size_append]; omega), dif_pos h]
  congr 1
  exact ByteArray.getElem_append_left (by omega)
theorem pbt_right (s t : ByteArray) (j : Nat) (h : j < t.size) : bt (s ++ t) (s.size + j) = bt t j := by
  unfold bt
  rw [dif_pos (by rw [ByteArray.size_append]; omega), dif_pos h]
  congr 1
  rw [ByteArray.getElem_append_right (by omega)]
  congr 1; omega
theorem txt_no_bar {s : ByteArray} (h : Txt s) (j : Nat) (hj : j < s.size) : bt s j ≠ 47 := by
  have := h.2.2 j hj; omega
theorem ztx_no_bar {s : ByteArray} {z : Int} (h : ZTx s z) (j : Nat) (hj : j < s.size) : bt s j ≠ 47 := by
  rcases h with ⟨_, h, _⟩ | ⟨_, t, rfl, h, _⟩
  · exact txt_no_bar h j hj
  · have e : (ByteArray.mk #[45]).size = 1 := rfl
    unfold minus at hj ⊢
    rw [ByteArray.size_append, e] at hj
    by_cases h0 : j = 0
    · rw [h0, pbt_left _ _ _ (by omega)]; decide
    · obtain ⟨i, rfl⟩ : ∃ i, j = (ByteArray.mk #[45]).size + i := ⟨j - 1, by omega⟩
      rw [pbt_right _ _ _ (by omega)]
      exact txt_no_bar h i (by omega)
theorem slash_size (a b : ByteArray) : (slash a b).size = a.size + 1 + b.size := by
  unfold slash
  rw [ByteArray.size_append, ByteArray.size_append]; rfl
theorem slash_bar (a b : ByteArray) : bt (slash a b) a.size = 47 := by
  have e : (⟨#[47]⟩ : ByteArray).size = 1 := rfl
  unfold slash
  rw [pbt_left _ _ _ (by rw [ByteArray.size_append]; omega)]
  have := pbt_right a ⟨#[47]⟩ 0 (by omega)
  rw [Nat.add_zero] at this
  rw [this]; rfl
theorem slash_left (a b : ByteArray) (j : Nat) (h : j < a.size) : bt (slash a b) j = bt a j := by
  unfold slash
  rw [pbt_left _ _ _ (by rw [ByteArray.size_append]; omega), pbt_left _ _ _ h]
theorem slash_right (a b : ByteArray) (j : Nat) (h : j < b.size) : bt (slash a b) (a.size + 1 + j) = bt b j := by
  have e : (a ++ (⟨#[47]⟩ : ByteArray)).size = a.size + 1 := by rw [ByteArray.size_append]; rfl
  unfold slash
  rw [← e, pbt_right _ _ _ h]
/-- The parts on both sides of the bar. -/
theorem slash_parts {a b s : ByteArray} {p : Nat} (hs : s = slash a b) (ha : ∀ j, j < a.size → bt a j ≠ 47) (h : CutAt s p) : p = a.size ∧ s.extract 0 p = a ∧ s.extract (p + 1) s.size = b := by
  subst hs
  have hz := slash_size a b
  have hp : p = a.size := by
    rcases Nat.lt_trichotomy p a.size with k | k | k
    · have := h.bar (by omega)
      rw [slash_left _ _ _ k] at this
      exact absurd this (ha p k)
    · exact k
    · exact absurd (slash_bar a b) (h.no _ k)
  subst hp
  refine ⟨rfl, ext_bt (by rw [ByteArray.size_extract]; omega) fun k hk => ?_, ext_bt (by rw [ByteArray.size_extract]; omega) fun k hk => ?_⟩
  · rw [ByteArray.size_extract] at hk
    rw [pbt_extract _ _ _ _ (by omega) (by omega), Nat.zero_add, slash_left _ _ _ (by omega)]
  · rw [ByteArray.size_extract] at hk
    rw [pbt_extract _ _ _ _ (by omega) (by omega), slash_right _ _ _ (by omega)]
theorem parts_slash {s : ByteArray} {p : Nat} (h : CutAt s p) (hp : p < s.size) : s = slash (s.extract 0 p) (s.extract (p + 1) s.size) := by
  have h1 : (s.extract 0 p).size = p := by rw [ByteArray.size_extract]; omega
  have h2 : (s.extract (p + 1) s.size).size = s.size - (p + 1) := by rw [ByteArray.size_extract]; omega
  refine ext_bt (by rw [slash_size]; omega) fun k hk => ?_
  rcases Nat.lt_trichotomy k p with e | e | e
  · rw [slash_left _ _ _ (by omega), pbt_extract _ _ _ _ (by omega) (by omega), Nat.zero_add]
  · have := slash_bar (s.extract 0 p) (s.extract (p + 1) s.size)
    rw [h1] at this
    rw [e, this]; exact h.bar hp
  · obtain ⟨i, rfl⟩ : ∃ i, k = p + 1 + i := ⟨k - (p + 1), by omega⟩
    have := slash_right (s.extract 0 p) (s.extract (p + 1) s.size) i (by omega)
    rw [h1] at this
    rw [this, pbt_extract _ _ _ _ (by omega) (by omega)]
/-- s is the text of the fraction n / d in its lowest terms. -/
structure Can (s : ByteArray) (n d : Int) : Prop where
  tx : QTx s n d
  pos : 1 ≤ d
  cop : Nat.gcd n.natAbs d.natAbs = 1
theorem can_whole {s : ByteArray} {n d : Int} (h : CutAt s s.size) : Can s n d ↔ d = 1 ∧ ZTx s n := by
  constructor
  · rintro ⟨⟨h1, h2⟩ | ⟨h1, a, b, h2, h3, h4⟩, hp, hc⟩
    · exact ⟨h1, h2⟩
    · have := slash_size a b
      have e := slash_bar a b
      rw [← h4] at this e
      exact absurd e (h.no a.size (by omega))
  · rintro ⟨rfl, h2⟩
    exact ⟨Or.inl ⟨rfl, h2⟩, by omega, by simp⟩
theorem can_parts {s : ByteArray} {p : Nat} {n d : Int} (h : CutAt s p) (hp : p < s.size) : Can s n d ↔ (d ≠ 1 ∧ 1 ≤ d ∧ Nat.gcd n.natAbs d.natAbs = 1 ∧ ZTx (s.extract 0 p) n ∧ ZTx (s.extract (p + 1) s.size) d) := by
  constructor
  · rintro ⟨⟨h1, h2⟩ | ⟨h1, a, b, h2, h3, h4⟩, hpos, hc⟩
    · exact absurd (h.bar hp) (ztx_no_bar h2 p hp)
    · obtain ⟨_, e1, e2⟩ := slash_parts h4 (fun j hj => ztx_no_bar h2 j hj) h
      rw [e1, e2]
      exact ⟨h1, hpos, hc, h2, h3⟩
  · rintro ⟨h1, h2, h3, h4, h5⟩
    exact ⟨Or.inr ⟨h1, _, _, h4, h5, parts_slash h hp⟩, h2, h3⟩
theorem low_pos {x y : Int} (h : y ≠ 0) : 1 ≤ lowD x y := by
  have h1 : 0 < y.natAbs / lowG x y := Nat.div_pos (Nat.le_of_dvd (by omega) (Nat.gcd_dvd_right _ _)) (lowG_pos h)
  unfold lowD
  omega
theorem lowN_abs (x y : Int) : (lowN x y).natAbs = x.natAbs / lowG x y := by
  unfold lowN
  rw [Int.natAbs_tdiv]
  congr 1
  split <;> simp
theorem low_cop {x y : Int} (h : y ≠ 0) : Nat.gcd (lowN x y).natAbs (lowD x y).natAbs = 1 := by
  rw [lowN_abs]
  unfold lowD
  rw [Int.natAbs_natCast]
  have h1 := Nat.gcd_div (k := lowG x y) (Nat.gcd_dvd_left x.natAbs y.natAbs) (Nat.gcd_dvd_right x.natAbs y.natAbs)
  rw [h1]
  exact Nat.div_self (lowG_pos h)
theorem low_id {x y : Int} (hp : 1 ≤ y) (hc : Nat.gcd x.natAbs y.natAbs = 1) : lowN x y = x ∧ lowD x y = y := by
  have hg : lowG x y = 1 := hc
  unfold lowN lowD
  rw [hg, if_neg (by omega)]
  simp
  omega
/-- What the fraction x / y's text says. -/
theorem can_low {s t : ByteArray} {x y : Int} {p : Nat} (h : CutAt s p) (hp : p < s.size) (hx : ZTx (s.extract 0 p) x) (hy : ZTx (s.extract (p + 1) s.size) y) (h0 : y ≠ 0) (ht : QTx t (lowN x y) (lowD x y)) : (t = s → Can s (lowN x y) (lowD x y)) ∧ (t ≠ s → ∀ n d, ¬ Can s n d) := by
  refine ⟨fun e => ⟨by rw [← e]; exact ht, low_pos h0, low_cop h0⟩, fun e n d k => ?_⟩
  have k2 := k
  rw [can_parts h hp] at k2
  obtain ⟨_, k3, k4, k5, k6⟩ := k2
  have e1 := k5.uniq hx
  have e2 := k6.uniq hy
  subst e1
  subst e2
  obtain ⟨l1, l2⟩ := low_id k3 k4
  rw [l1, l2] at ht
  exact e (ht.inj k.tx)
/-- What stands under the bar; 1, if there is none. -/
def underT (s : ByteArray) (p : Nat) : ByteArray := if p < s.size then s.extract (p + 1) s.size else ⟨#[49]⟩
theorem extract_all {s : ByteArray} {p : Nat} (h : p = s.size) : s.extract 0 p = s := by
  subst h
  exact ext_bt (by rw [ByteArray.size_extract]; omega) fun k hk => by
    rw [ByteArray.size_extract] at hk
    rw [pbt_extract _ _ _ _ (by omega) (by omega), Nat.zero_add]
theorem under_size {s : ByteArray} {p : Nat} : (underT s p).size ≤ s.size + 1 := by
  unfold underT
  split
  · rw [ByteArray.size_extract]; omega
  · show (1 : Nat) ≤ _; omega
theorem can_no {s : ByteArray} {p : Nat} (h : CutAt s p) (k : (∀ x, ¬ ZTx (s.extract 0 p) x) ∨ ∀ y, ¬ ZTx (underT s p) y) : ∀ n d, ¬ Can s n d := by
  intro n d c
  by_cases hp : p < s.size
  · obtain ⟨_, _, _, c1, c2⟩ := (can_parts h hp).1 c
    rcases k with k | k
    · exact k n c1
    · unfold underT at k
      rw [if_pos hp] at k
      exact k d c2
  · obtain rfl : p = s.size := by have := h.le; omega
    obtain ⟨rfl, c1⟩ := (can_whole h).1 c
    rcases k with k | k
    · rw [extract_all rfl] at k; exact k n c1
    · unfold underT at k
      rw [if_neg hp] at k
      exact k 1 ztx_one
theorem can_zero {s : ByteArray} {p : Nat} (h : CutAt s p) (k : ZTx (underT s p) 0) : ∀ n d, ¬ Can s n d := by
  intro n d c
  by_cases hp : p < s.size
  · obtain ⟨_, c0, _, c1, c2⟩ := (can_parts h hp).1 c
    unfold underT at k
    rw [if_pos hp] at k
    have := c2.uniq k
    omega
  · unfold underT at k
    rw [if_neg hp] at k
    have := k.uniq ztx_one
    omega
theorem can_gen {s t : ByteArray} {x y : Int} {p : Nat} (h : CutAt s p) (hx : ZTx (s.extract 0 p) x) (hy : ZTx (underT s p) y) (h0 : y ≠ 0) (ht : QTx t (lowN x y) (lowD x y)) : (t = s → Can s (lowN x y) (lowD x y)) ∧ (t ≠ s → ∀ n d, ¬ Can s n d) := by
  by_cases hp : p < s.size
  · unfold underT at hy
    rw [if_pos hp] at hy
    exact can_low h hp hx hy h0 ht
  · obtain rfl : p = s.size := by have := h.le; omega
    unfold underT at hy
    rw [if_neg hp] at hy
    rw [extract_all rfl] at hx
    have e := hy.uniq ztx_one
    subst e
    obtain ⟨l1, l2⟩ := low_id (x := x) (y := 1) (by omega) (by simp)
    rw [l1, l2] at ht ⊢
    have hq : QTx s x 1 := Or.inl ⟨rfl, hx⟩
    exact ⟨fun _ => ⟨hq, by omega, by simp⟩, fun e => absurd (ht.inj hq) e⟩
theorem byteArr (a : ByteArray) : (⟨a.data.toList.toArray⟩ : ByteArray) = a := by cases a; simp
theorem bt_data (s : ByteArray) (j : Nat) (h : j < s.size) : s.data.toList[j]? = some (s[j]'h) := by
  rw [Array.getElem?_toList]
  exact Array.getElem?_eq_getElem h
theorem pbt_list (l : List UInt8) (j : Nat) (h : j < l.length) : bt ⟨l.toArray⟩ j = (l[j]'h).toNat := by
  have hs : j < (⟨l.toArray⟩ : ByteArray).size := by simpa [ByteArray.size] using h
  rw [← bt_at _ j hs]
  rfl
theorem psize_list (l : List UInt8) : (⟨l.toArray⟩ : ByteArray).size = l.length := by simp [ByteArray.size]
theorem bt_toList (s : ByteArray) (j : Nat) (h : j < s.data.toList.length) : (s.data.toList[j]'h).toNat = bt s j := by
  have h2 : j < s.size := h
  rw [← bt_at s j h2]
  rfl
/-- What strings.Cut answers at a bar. -/
theorem cut_bar (s : ByteArray) : ∃ p, CutAt s p ∧ (⟨(Lib.cut s.data.toList (⟨#[47]⟩ : ByteArray).data.toList).1.toArray⟩ : ByteArray) = s.extract 0 p ∧ (p < s.size → (⟨(Lib.cut s.data.toList (⟨#[47]⟩ : ByteArray).data.toList).2.1.toArray⟩ : ByteArray) = s.extract (p + 1) s.size) ∧ (Lib.cut s.data.toList (⟨#[47]⟩ : ByteArray).data.toList).2.2 = decide (p < s.size) := by
  have hi : Lib.index s.data.toList (⟨#[47]⟩ : ByteArray).data.toList = Lib.indexByte s.data.toList 47 := Lib.index_one _ _
  have hl : s.data.toList.length = s.size := rfl
  unfold Lib.cut
  rw [hi]
  rcases Int.lt_or_le (Lib.indexByte s.data.toList 47) 0 with h | h
  · have hm : Lib.indexByte s.data.toList 47 = -1 := by have := Lib.indexByte_ge s.data.toList 47; omega
    have hno := Lib.indexByte_none hm
    refine ⟨s.size, ⟨Nat.le_refl _, fun j hj e => ?_, fun h => absurd h (Nat.lt_irrefl _)⟩, ?_, fun h => absurd h (Nat.lt_irrefl _), ?_⟩
    · refine hno j ?_
      rw [bt_data s j hj]
      congr 1
      rw [← bt_at s j hj] at e
      exact UInt8.toNat_inj.1 e
    · rw [if_neg (by omega), byteArr]
      exact ext_bt (by rw [ByteArray.size_extract]; omega) fun k hk => by rw [pbt_extract _ _ _ _ (by omega) (by omega), Nat.zero_add]
    · rw [if_neg (by omega)]
      simp
  · obtain ⟨p, hp⟩ : ∃ p : Nat, Lib.indexByte s.data.toList 47 = p := ⟨(Lib.indexByte s.data.toList 47).toNat, by omega⟩
    obtain ⟨h1, h2⟩ := Lib.indexByte_some hp
    have hlt : p < s.size := by have := (List.getElem?_eq_some_iff.1 h1).1; omega
    rw [bt_data s p hlt] at h1
    refine ⟨p, ⟨by omega, fun j hj e => ?_, fun _ => ?_⟩, ?_, fun _ => ?_, ?_⟩
    · refine h2 j hj ?_
      rw [bt_data s j (by omega)]
      congr 1
      rw [← bt_at s j (by omega)] at e
      exact UInt8.toNat_inj.1 e
    · rw [← bt_at s p hlt, Option.some.inj h1]; rfl
    · rw [if_pos h, hp]
      have hl2 : (s.data.toList.take (p : Int).toNat).length = p := by rw [List.length_take, hl]; omega
      refine ext_bt (by rw [psize_list, hl2, ByteArray.size_extract]; omega) fun k hk => ?_
      rw [psize_list] at hk
      have hk2 : k < (s.data.toList.take (p : Int).toNat).length := hk
      rw [hl2] at hk2
      rw [pbt_list _ k hk, List.getElem_take, bt_toList, pbt_extract _ _ _ _ (by omega) (by omega), Nat.zero_add]
    · rw [if_pos h, hp]
      have hl2 : (s.data.toList.drop ((p : Int).toNat + (⟨#[47]⟩ : ByteArray).data.toList.length)).length = s.size - (p + 1) := by rw [List.length_drop, hl]; rfl
      refine ext_bt (by rw [psize_list, hl2, ByteArray.size_extract]; omega) fun k hk => ?_
      rw [psize_list] at hk
      have hk2 : k < (s.data.toList.drop ((p : Int).toNat + (⟨#[47]⟩ : ByteArray).data.toList.length)).length := hk
      rw [hl2] at hk2
      rw [pbt_list _ k hk, List.getElem_drop, bt_toList, pbt_extract _ _ _ _ (by omega) (by omega)]
      rfl
    · rw [if_pos h]
      simp [hlt]
end Go.Proofs.YtjldlmonccgopaaGreatDoor
/- Fractions, in plain terms: what lowest terms keep, and what the order makes of it. -/
namespace Go.Proofs.YtjldlmonccgopaaGreatDoor
set_option linter.unusedVariables false

/-- Numerator and denominator are those of the lowest terms, times one number of the denominator's sign. -/
theorem low_scale {x y : Int} (h : y ≠ 0) : ∃ g : Int, g ≠ 0 ∧ (0 < y → 0 < g) ∧ x = g * lowN x y ∧ y = g * lowD x y := by
  have hg := lowG_pos (x := x) h
  have d1 : lowG x y ∣ x.natAbs := Nat.gcd_dvd_left _ _
  have d2 : lowG x y ∣ y.natAbs := Nat.gcd_dvd_right _ _
  obtain ⟨x', hx⟩ : (lowG x y : Int) ∣ x := Int.ofNat_dvd_left.2 d1
  obtain ⟨y', hy⟩ : (lowG x y : Int) ∣ y := Int.ofNat_dvd_left.2 d2
  have eD : lowD x y = (y'.natAbs : Int) := by
    unfold lowD
    have e : y.natAbs = lowG x y * y'.natAbs := by
      conv => lhs; rw [hy]
      rw [Int.natAbs_mul, Int.natAbs_natCast]
    rw [e, Nat.mul_div_cancel_left _ hg]
  have hg' : (lowG x y : Int) ≠ 0 := by omega
  have hgp : (0 : Int) < (lowG x y : Int) := by omega
  by_cases hn : y < 0
  · have hy' : y' < 0 := by
      by_cases k : y' < 0
      · exact k
      · have := Int.mul_nonneg (Int.le_of_lt hgp) (Int.not_lt.1 k)
        omega
    have eN : lowN x y = -x' := by
      unfold lowN
      rw [if_pos hn]
      have e : -x = (lowG x y : Int) * (-x') := by
        rw [Int.mul_neg, ← hx]
      rw [e, Int.mul_tdiv_cancel_left _ hg']
    refine ⟨-(lowG x y : Int), by omega, fun k => by omega, ?_, ?_⟩
    · rw [eN, Int.neg_mul_neg]; exact hx
    · rw [eD, show (y'.natAbs : Int) = -y' by omega, Int.neg_mul_neg]; exact hy
  · have hy' : 0 < y' := by
      by_cases k : 0 < y'
      · exact k
      · have := Int.mul_nonneg (Int.le_of_lt hgp) (show (0 : Int) ≤ -y' by omega)
        rw [Int.mul_neg] at this
        omega
    have eN : lowN x y = x' := by
      unfold lowN
      rw [if_neg hn]
      have e : x = (lowG x y : Int) * x' := hx
      conv => lhs; arg 1; rw [e]
      rw [Int.mul_tdiv_cancel_left _ hg']
    refine ⟨(lowG x y : Int), by omega, fun _ => hgp, ?_, ?_⟩
    · rw [eN]; exact hx
    · rw [eD, show (y'.natAbs : Int) = y' by omega]; exact hy
theorem cmpZ_scale {g a b : Int} (h : 0 < g) : cmpZ (g * a) (g * b) = cmpZ a b := by
  unfold cmpZ
  have e1 : g * a < g * b ↔ a < b := ⟨fun k => Int.lt_of_mul_lt_mul_left k (Int.le_of_lt h), fun k => Int.mul_lt_mul_of_pos_left k h⟩
  have e2 : g * b < g * a ↔ b < a := ⟨fun k => Int.lt_of_mul_lt_mul_left k (Int.le_of_lt h), fun k => Int.mul_lt_mul_of_pos_left k h⟩
  rcases Int.lt_trichotomy a b with k | k | k
  · have := e1.2 k
    simp [*] <;> omega
  · subst k; simp
  · have := e2.2 k
    (repeat' split) <;> first | rfl | omega
/-- The order of lowest terms is that of what they were made of. -/
theorem cmp_low_left {x y n d : Int} (h : 0 < y) : cmpZ (lowN x y * d) (n * lowD x y) = cmpZ (x * d) (n * y) := by
  obtain ⟨g, h1, h2, h3, h4⟩ := low_scale (x := x) (show y ≠ 0 by omega)
  generalize lowN x y = N at *
  generalize lowD x y = D at *
  subst h3; subst h4
  rw [← cmpZ_scale (h2 h), Int.mul_assoc g N d, Int.mul_left_comm n g D]
theorem cmp_low_right {x y n d : Int} (h : 0 < y) : cmpZ (n * lowD x y) (lowN x y * d) = cmpZ (n * y) (x * d) := by
  obtain ⟨g, h1, h2, h3, h4⟩ := low_scale (x := x) (show y ≠ 0 by omega)
  generalize lowN x y = N at *
  generalize lowD x y = D at *
  subst h3; subst h4
  rw [← cmpZ_scale (h2 h), Int.mul_assoc g N d, Int.mul_left_comm n g D]
end Go.Proofs.YtjldlmonccgopaaGreatDoor
