/- Math, RMath, Texts, NTexts, DivMath, IMath. -/
/- Plain numbers: what a list of limbs to the base 4294967296 is worth, and what sums, order and scaling do to it. No program is named here. -/
namespace Go.Proofs.YtcdkoadobdgbhaaGreatDoor

/-- Limb k; 0 behind the end. -/
def lg (L : List Nat) (k : Nat) : Nat := L.getD k 0
/-- What the first i limbs are worth. -/
def pv (L : List Nat) : Nat → Nat
  | 0 => 0
  | i + 1 => pv L i + lg L i * 4294967296 ^ i
def val (L : List Nat) : Nat := pv L L.length
/-- Each limb is a limb. -/
def Bd (L : List Nat) : Prop := ∀ j, lg L j < 4294967296
/-- The last limb is not 0. -/
def Top (L : List Nat) : Prop := L.length ≠ 0 → lg L (L.length - 1) ≠ 0

theorem lg_past (L : List Nat) (k : Nat) (h : L.length ≤ k) : lg L k = 0 := by
  simp [lg, List.getD, List.getElem?_eq_none h]
theorem lg_set (L : List Nat) (i x j : Nat) (h : i < L.length) : lg (L.set i x) j = if i = j then x else lg L j := by
  by_cases e : i = j
  · subst e; simp [lg, List.getD, h]
  · simp [lg, List.getD, e]
theorem lg_set_same (L : List Nat) (i x : Nat) (h : i < L.length) : lg (L.set i x) i = x := by rw [lg_set L i x i h]; simp
theorem lg_set_other (L : List Nat) (i x j : Nat) (h : i ≠ j) : lg (L.set i x) j = lg L j := by
  simp [lg, List.getD, h]
theorem Bd_set {L : List Nat} (hb : Bd L) (i x : Nat) (hx : x < 4294967296) : Bd (L.set i x) := by
  intro j
  by_cases e : i = j
  · by_cases h : i < L.length
    · subst e; rw [lg_set_same L i x h]; exact hx
    · rw [List.set_eq_of_length_le (by omega)]; exact hb j
  · rw [lg_set_other L i x j e]; exact hb j
theorem lg_rep (n k : Nat) : lg (List.replicate n 0) k = 0 := by
  by_cases h : k < n
  · simp [lg, List.getD, h]
  · exact lg_past _ _ (by simp; omega)
theorem Bd_rep (n : Nat) : Bd (List.replicate n 0) := by intro j; rw [lg_rep]; omega

theorem pv_congr {L M : List Nat} {n : Nat} (h : ∀ j, j < n → lg L j = lg M j) : pv L n = pv M n := by
  induction n with
  | zero => rfl
  | succ n ih => simp only [pv]; rw [ih (fun j hj => h j (by omega)), h n (by omega)]
theorem pv_zero {L : List Nat} {n : Nat} (h : ∀ j, j < n → lg L j = 0) : pv L n = 0 := by
  induction n with
  | zero => rfl
  | succ n ih => simp only [pv]; rw [ih (fun j hj => h j (by omega)), h n (by omega)]; simp
theorem pv_ge (L : List Nat) (m n : Nat) (hz : ∀ j, m ≤ j → j < n → lg L j = 0) (h : m ≤ n) : pv L n = pv L m := by
  induction n with
  | zero => have : m = 0 := by omega
            subst this; rfl
  | succ n ih =>
    by_cases e : m = n + 1
    · subst e; rfl
    · simp only [pv]; rw [hz n (by omega) (by omega), ih (fun j h1 h2 => hz j h1 (by omega)) (by omega)]; simp
theorem pv_val (L : List Nat) (n : Nat) (h : L.length ≤ n) : pv L n = val L :=
  pv_ge L L.length n (fun j h1 _ => lg_past L j h1) h
theorem pv_lt {L : List Nat} (hb : Bd L) (n : Nat) : pv L n < 4294967296 ^ n := by
  induction n with
  | zero => simp [pv]
  | succ n ih =>
    simp only [pv, Nat.pow_succ]
    have h1 : lg L n + 1 ≤ 4294967296 := hb n
    have h2 : (lg L n + 1) * 4294967296 ^ n ≤ 4294967296 * 4294967296 ^ n := Nat.mul_le_mul_right _ h1
    rw [Nat.add_mul, Nat.one_mul] at h2
    rw [Nat.mul_comm (4294967296 ^ n) 4294967296]
    omega
theorem val_lt {L : List Nat} (hb : Bd L) : val L < 4294967296 ^ L.length := pv_lt hb _
theorem pv_set_past (L : List Nat) (i x n : Nat) (h : n ≤ i) : pv (L.set i x) n = pv L n :=
  pv_congr fun j hj => lg_set_other L i x j (by omega)
theorem pv_le (L : List Nat) (n m : Nat) (h : n ≤ m) : pv L n ≤ pv L m := by
  induction m with
  | zero => have : n = 0 := by omega
            subst this; exact Nat.le_refl _
  | succ m ih =>
    by_cases e : n = m + 1
    · subst e; exact Nat.le_refl _
    · have := ih (by omega); simp only [pv]; omega

/-- The order, from the top down. -/
theorem pv_lt_at {L M : List Nat} (hb : Bd L) (i n : Nat) (hi : i < n) (heq : ∀ j, i < j → j < n → lg L j = lg M j) (hlt : lg L i < lg M i) : pv L n < pv M n := by
  induction n with
  | zero => omega
  | succ n ih =>
    simp only [pv]
    by_cases e : i = n
    · subst e
      have h1 := pv_lt hb i
      have h2 : (lg L i + 1) * 4294967296 ^ i ≤ lg M i * 4294967296 ^ i := Nat.mul_le_mul_right _ hlt
      rw [Nat.add_mul, Nat.one_mul] at h2
      omega
    · have := ih (by omega) (fun j h1 h2 => heq j h1 (by omega))
      rw [heq n (by omega) (by omega)]
      omega
theorem val_lt_len {L M : List Nat} (hb : Bd L) (ht : Top M) (h : L.length < M.length) : val L < val M := by
  have h1 := val_lt hb
  have h2 : 4294967296 ^ L.length ≤ 4294967296 ^ (M.length - 1) := Nat.pow_le_pow_right (by omega) (by omega)
  have h3 : val M = pv M (M.length - 1) + lg M (M.length - 1) * 4294967296 ^ (M.length - 1) := by
    unfold val
    obtain ⟨m, hm⟩ : ∃ m, M.length = m + 1 := ⟨M.length - 1, by omega⟩
    rw [hm]; simp only [pv, Nat.add_sub_cancel]
  have h4 : 1 * 4294967296 ^ (M.length - 1) ≤ lg M (M.length - 1) * 4294967296 ^ (M.length - 1) :=
    Nat.mul_le_mul_right _ (by have := ht (by omega); omega)
  omega
theorem list_ext_lg {L M : List Nat} (h : L.length = M.length) (he : ∀ j, lg L j = lg M j) : L = M := by
  apply List.ext_getElem h
  intro j h1 h2
  have := he j
  simpa [lg, List.getD, h1, h2] using this
/-- What is left when noughts are taken off the end. -/
theorem take_val (L : List Nat) (k : Nat) (hk : k ≤ L.length) (hz : ∀ j, k ≤ j → lg L j = 0) : val (L.take k) = val L := by
  have h1 : (L.take k).length = k := by simp; omega
  have h2 : val (L.take k) = pv L k := by
    unfold val; rw [h1]
    exact pv_congr fun j hj => by simp [lg, List.getD, hj]
  rw [h2]
  exact (pv_ge L k L.length (fun j a _ => hz j a) hk).symm
theorem lg_take (L : List Nat) (k j : Nat) (h : j < k) : lg (L.take k) j = lg L j := by simp [lg, List.getD, h]
theorem Bd_take {L : List Nat} (hb : Bd L) (k : Nat) : Bd (L.take k) := by
  intro j
  by_cases h : j < k
  · rw [lg_take L k j h]; exact hb j
  · rw [lg_past (L.take k) j (by simp; omega)]; omega
theorem Top_take (L : List Nat) (k : Nat) (hk : k ≤ L.length) (h : k ≠ 0 → lg L (k - 1) ≠ 0) : Top (L.take k) := by
  have h1 : (L.take k).length = k := by simp; omega
  intro hn
  rw [h1] at hn ⊢
  rw [lg_take L k (k - 1) (by omega)]
  exact h hn

/-- A round of the addition. -/
theorem add_round (A B S : List Nat) (i c : Nat) (hi : i < S.length) (h : pv S i + c * 4294967296 ^ i = pv A i + pv B i) :
    pv (S.set i ((lg A i + lg B i + c) % 4294967296)) (i + 1) + (lg A i + lg B i + c) / 4294967296 * 4294967296 ^ (i + 1) = pv A (i + 1) + pv B (i + 1) := by
  simp only [pv]
  rw [pv_set_past S i _ i (Nat.le_refl _), lg_set_same S i _ hi, Nat.pow_succ]
  generalize 4294967296 ^ i = p at *
  have hd := Nat.div_add_mod (lg A i + lg B i + c) 4294967296
  generalize (lg A i + lg B i + c) % 4294967296 = r at *
  generalize (lg A i + lg B i + c) / 4294967296 = q at *
  have h2 : (4294967296 * q + r) * p = (lg A i + lg B i + c) * p := by rw [hd]
  rw [Nat.add_mul, Nat.add_mul, Nat.add_mul] at h2
  have h3 : q * (p * 4294967296) = 4294967296 * q * p := by rw [Nat.mul_comm p, ← Nat.mul_assoc, Nat.mul_comm q]
  rw [h3]
  omega
/-- A round of the scaling. -/
theorem scale_round (L S : List Nat) (f m i c : Nat) (hi : i < S.length) (h : pv S i + c * 4294967296 ^ i = pv L i * f + m) :
    pv (S.set i ((lg L i * f + c) % 4294967296)) (i + 1) + (lg L i * f + c) / 4294967296 * 4294967296 ^ (i + 1) = pv L (i + 1) * f + m := by
  simp only [pv]
  rw [pv_set_past S i _ i (Nat.le_refl _), lg_set_same S i _ hi, Nat.pow_succ]
  generalize 4294967296 ^ i = p at *
  have hd := Nat.div_add_mod (lg L i * f + c) 4294967296
  generalize (lg L i * f + c) % 4294967296 = r at *
  generalize (lg L i * f + c) / 4294967296 = q at *
  have h2 : (4294967296 * q + r) * p = (lg L i * f + c) * p := by rw [hd]
  rw [Nat.add_mul, Nat.add_mul] at h2
  have h3 : q * (p * 4294967296) = 4294967296 * q * p := by rw [Nat.mul_comm p, ← Nat.mul_assoc, Nat.mul_comm q]
  have h4 : (pv L i + lg L i * p) * f = pv L i * f + lg L i * f * p := by rw [Nat.add_mul, Nat.mul_right_comm]
  rw [h3, h4]
  omega
/-- Nothing is carried over where there is room. -/
theorem no_carry {a c p v : Nat} (h : a + c * p = v) (hv : v < p) : c = 0 ∧ a = v := by
  rcases Nat.eq_zero_or_pos c with h0 | h0
  · subst h0; exact ⟨rfl, by omega⟩
  · have : 1 * p ≤ c * p := Nat.mul_le_mul_right _ h0
    omega
theorem mul_lt_limb {x f c : Nat} (hx : x < 4294967296) (hf : f < 4294967296) (hc : c < 4294967296) : x * f + c < 18446744069414584321 ∧ (x * f + c) / 4294967296 < 4294967296 ∧ x * f ≤ 18446744065119617025 := by
  have h1 : x * f ≤ 4294967295 * 4294967295 := Nat.mul_le_mul (by omega) (by omega)
  omega
end Go.Proofs.YtcdkoadobdgbhaaGreatDoor
/- The same for digits to the base of a thousand million. No program is named here. -/
namespace Go.Proofs.YtcdkoadobdgbhaaGreatDoor.R

/-- What the first i limbs are worth. -/
def pv (L : List Nat) : Nat → Nat
  | 0 => 0
  | i + 1 => pv L i + lg L i * 1000000000 ^ i
def val (L : List Nat) : Nat := pv L L.length
/-- Each limb is a limb. -/
def Bd (L : List Nat) : Prop := ∀ j, lg L j < 1000000000
theorem Bd_set {L : List Nat} (hb : Bd L) (i x : Nat) (hx : x < 1000000000) : Bd (L.set i x) := by
  intro j
  by_cases e : i = j
  · by_cases h : i < L.length
    · subst e; rw [lg_set_same L i x h]; exact hx
    · rw [List.set_eq_of_length_le (by omega)]; exact hb j
  · rw [lg_set_other L i x j e]; exact hb j
theorem Bd_rep (n : Nat) : Bd (List.replicate n 0) := by intro j; rw [lg_rep]; omega

theorem pv_congr {L M : List Nat} {n : Nat} (h : ∀ j, j < n → lg L j = lg M j) : pv L n = pv M n := by
  induction n with
  | zero => rfl
  | succ n ih => simp only [pv]; rw [ih (fun j hj => h j (by omega)), h n (by omega)]
theorem pv_zero {L : List Nat} {n : Nat} (h : ∀ j, j < n → lg L j = 0) : pv L n = 0 := by
  induction n with
  | zero => rfl
  | succ n ih => simp only [pv]; rw [ih (fun j hj => h j (by omega)), h n (by omega)]; simp
theorem pv_ge (L : List Nat) (m n : Nat) (hz : ∀ j, m ≤ j → j < n → lg L j = 0) (h : m ≤ n) : pv L n = pv L m := by
  induction n with
  | zero => have : m = 0 := by omega
            subst this; rfl
  | succ n ih =>
    by_cases e : m = n + 1
    · subst e; rfl
    · simp only [pv]; rw [hz n (by omega) (by omega), ih (fun j h1 h2 => hz j h1 (by omega)) (by omega)]; simp
theorem pv_val (L : List Nat) (n : Nat) (h : L.length ≤ n) : pv L n = val L :=
  pv_ge L L.length n (fun j h1 _ => lg_past L j h1) h
theorem pv_lt {L : List Nat} (hb : Bd L) (n : Nat) : pv L n < 1000000000 ^ n := by
  induction n with
  | zero => simp [pv]
  | succ n ih =>
    simp only [pv, Nat.pow_succ]
    have h1 : lg L n + 1 ≤ 1000000000 := hb n
    have h2 : (lg L n + 1) * 1000000000 ^ n ≤ 1000000000 * 1000000000 ^ n := Nat.mul_le_mul_right _ h1
    rw [Nat.add_mul, Nat.one_mul] at h2
    rw [Nat.mul_comm (1000000000 ^ n) 1000000000]
    omega
theorem val_lt {L : List Nat} (hb : Bd L) : val L < 1000000000 ^ L.length := pv_lt hb _
theorem pv_set_past (L : List Nat) (i x n : Nat) (h : n ≤ i) : pv (L.set i x) n = pv L n :=
  pv_congr fun j hj => lg_set_other L i x j (by omega)
theorem pv_le (L : List Nat) (n m : Nat) (h : n ≤ m) : pv L n ≤ pv L m := by
  induction m with
  | zero => have : n = 0 := by omega
            subst this; exact Nat.le_refl _
  | succ m ih =>
    by_cases e : n = m + 1
    · subst e; exact Nat.le_refl _
    · have := ih (by omega); simp only [pv]; omega

/-- The order, from the top down. -/
theorem pv_lt_at {L M : List Nat} (hb : Bd L) (i n : Nat) (hi : i < n) (heq : ∀ j, i < j → j < n → lg L j = lg M j) (hlt : lg L i < lg M i) : pv L n < pv M n := by
  induction n with
  | zero => omega
  | succ n ih =>
    simp only [pv]
    by_cases e : i = n
    · subst e
      have h1 := pv_lt hb i
      have h2 : (lg L i + 1) * 1000000000 ^ i ≤ lg M i * 1000000000 ^ i := Nat.mul_le_mul_right _ hlt
      rw [Nat.add_mul, Nat.one_mul] at h2
      omega
    · have := ih (by omega) (fun j h1 h2 => heq j h1 (by omega))
      rw [heq n (by omega) (by omega)]
      omega
theorem val_lt_len {L M : List Nat} (hb : Bd L) (ht : Top M) (h : L.length < M.length) : val L < val M := by
  have h1 := val_lt hb
  have h2 : 1000000000 ^ L.length ≤ 1000000000 ^ (M.length - 1) := Nat.pow_le_pow_right (by omega) (by omega)
  have h3 : val M = pv M (M.length - 1) + lg M (M.length - 1) * 1000000000 ^ (M.length - 1) := by
    unfold val
    obtain ⟨m, hm⟩ : ∃ m, M.length = m + 1 := ⟨M.length - 1, by omega⟩
    rw [hm]; simp only [pv, Nat.add_sub_cancel]
  have h4 : 1 * 1000000000 ^ (M.length - 1) ≤ lg M (M.length - 1) * 1000000000 ^ (M.length - 1) :=
    Nat.mul_le_mul_right _ (by have := ht (by omega); omega)
  omega
/-- What is left when noughts are taken off the end. -/
theorem take_val (L : List Nat) (k : Nat) (hk : k ≤ L.length) (hz : ∀ j, k ≤ j → lg L j = 0) : val (L.take k) = val L := by
  have h1 : (L.take k).length = k := by simp; omega
  have h2 : val (L.take k) = pv L k := by
    unfold val; rw [h1]
    exact pv_congr fun j hj => by simp [lg, List.getD, hj]
  rw [h2]
  exact (pv_ge L k L.length (fun j a _ => hz j a) hk).symm
theorem Bd_take {L : List Nat} (hb : Bd L) (k : Nat) : Bd (L.take k) := by
  intro j
  by_cases h : j < k
  · rw [lg_take L k j h]; exact hb j
  · rw [lg_past (L.take k) j (by simp; omega)]; omega
/-- A round of the addition. -/
theorem add_round (A B S : List Nat) (i c : Nat) (hi : i < S.length) (h : pv S i + c * 1000000000 ^ i = pv A i + pv B i) :
    pv (S.set i ((lg A i + lg B i + c) % 1000000000)) (i + 1) + (lg A i + lg B i + c) / 1000000000 * 1000000000 ^ (i + 1) = pv A (i + 1) + pv B (i + 1) := by
  simp only [pv]
  rw [pv_set_past S i _ i (Nat.le_refl _), lg_set_same S i _ hi, Nat.pow_succ]
  generalize 1000000000 ^ i = p at *
  have hd := Nat.div_add_mod (lg A i + lg B i + c) 1000000000
  generalize (lg A i + lg B i + c) % 1000000000 = r at *
  generalize (lg A i + lg B i + c) / 1000000000 = q at *
  have h2 : (1000000000 * q + r) * p = (lg A i + lg B i + c) * p := by rw [hd]
  rw [Nat.add_mul, Nat.add_mul, Nat.add_mul] at h2
  have h3 : q * (p * 1000000000) = 1000000000 * q * p := by rw [Nat.mul_comm p, ← Nat.mul_assoc, Nat.mul_comm q]
  rw [h3]
  omega
/-- A round of the scaling. -/
theorem scale_round (L S : List Nat) (f m i c : Nat) (hi : i < S.length) (h : pv S i + c * 1000000000 ^ i = pv L i * f + m) :
    pv (S.set i ((lg L i * f + c) % 1000000000)) (i + 1) + (lg L i * f + c) / 1000000000 * 1000000000 ^ (i + 1) = pv L (i + 1) * f + m := by
  simp only [pv]
  rw [pv_set_past S i _ i (Nat.le_refl _), lg_set_same S i _ hi, Nat.pow_succ]
  generalize 1000000000 ^ i = p at *
  have hd := Nat.div_add_mod (lg L i * f + c) 1000000000
  generalize (lg L i * f + c) % 1000000000 = r at *
  generalize (lg L i * f + c) / 1000000000 = q at *
  have h2 : (1000000000 * q + r) * p = (lg L i * f + c) * p := by rw [hd]
  rw [Nat.add_mul, Nat.add_mul] at h2
  have h3 : q * (p * 1000000000) = 1000000000 * q * p := by rw [Nat.mul_comm p, ← Nat.mul_assoc, Nat.mul_comm q]
  have h4 : (pv L i + lg L i * p) * f = pv L i * f + lg L i * f * p := by rw [Nat.add_mul, Nat.mul_right_comm]
  rw [h3, h4]
  omega
end Go.Proofs.YtcdkoadobdgbhaaGreatDoor.R
/- Plain texts: which bytes are a number's text, what it is worth, and that one number has one text. No program is named here. -/
namespace Go.Proofs.YtcdkoadobdgbhaaGreatDoor

/-- Byte k; 0 behind the end. -/
def bt (s : ByteArray) (k : Nat) : Nat := if h : k < s.size then (s[k]'h).toNat else 0
theorem bt_at (s : ByteArray) (k : Nat) (h : k < s.size) : (s[k]'h).toNat = bt s k := by simp [bt, h]
/-- The bytes are decimal digits, at least one, no nought ahead of others. -/
def Txt (s : ByteArray) : Prop := s.size ≠ 0 ∧ (1 < s.size → bt s 0 ≠ 48) ∧ ∀ k, k < s.size → 48 ≤ bt s k ∧ bt s k ≤ 57
/-- What the first k digits are worth. -/
def dv (s : ByteArray) : Nat → Nat
  | 0 => 0
  | k + 1 => dv s k * 10 + (bt s k - 48)
def num (s : ByteArray) : Nat := dv s s.size

theorem ext_bt {s t : ByteArray} (h : s.size = t.size) (he : ∀ k, k < s.size → bt s k = bt t k) : s = t := by
  apply ByteArray.ext
  apply Array.ext h
  intro k h1 h2
  have := he k h1
  rw [← bt_at s k h1, ← bt_at t k h2] at this
  exact UInt8.toNat_inj.1 this
theorem dv_lt {s : ByteArray} (n : Nat) (h : ∀ k, k < n → 48 ≤ bt s k ∧ bt s k ≤ 57) : dv s n < 10 ^ n := by
  induction n with
  | zero => simp [dv]
  | succ n ih =>
    have h1 := ih (fun k hk => h k (by omega))
    have h2 := h n (by omega)
    simp only [dv, Nat.pow_succ]; omega
theorem dv_ge {s : ByteArray} (n : Nat) (h0 : 1 ≤ bt s 0 - 48) : 10 ^ n ≤ dv s (n + 1) := by
  induction n with
  | zero => simp only [dv]; omega
  | succ n ih =>
    rw [dv, Nat.pow_succ]; omega
theorem dv_inj {s t : ByteArray} (n : Nat) (hs : ∀ k, k < n → 48 ≤ bt s k ∧ bt s k ≤ 57) (ht : ∀ k, k < n → 48 ≤ bt t k ∧ bt t k ≤ 57) (h : dv s n = dv t n) : ∀ k, k < n → bt s k = bt t k := by
  induction n with
  | zero => intro k hk; omega
  | succ n ih =>
    have a := hs n (by omega)
    have b := ht n (by omega)
    simp only [dv] at h
    intro k hk
    by_cases e : k = n
    · subst e; omega
    · exact ih (fun k hk => hs k (by omega)) (fun k hk => ht k (by omega)) (by omega) k (by omega)
theorem num_len {s t : ByteArray} (hs : Txt s) (ht : Txt t) (h : s.size < t.size) : num s < num t := by
  obtain ⟨s0, s1, s2⟩ := hs
  obtain ⟨t0, t1, t2⟩ := ht
  have h1 := dv_lt s.size s2
  have h2 : 10 ^ s.size ≤ 10 ^ (t.size - 1) := Nat.pow_le_pow_right (by omega) (by omega)
  have h3 := dv_ge (s := t) (t.size - 1) (by have := t1 (by omega); have := t2 0 (by omega); omega)
  rw [show t.size - 1 + 1 = t.size by omega] at h3
  unfold num
  omega
/-- One number has one text. -/
theorem num_inj {s t : ByteArray} (hs : Txt s) (ht : Txt t) (h : num s = num t) : s = t := by
  have hl : s.size = t.size := by
    rcases Nat.lt_trichotomy s.size t.size with h1 | h1 | h1
    · have := num_len hs ht h1; omega
    · exact h1
    · have := num_len ht hs h1; omega
  refine ext_bt hl ?_
  unfold num at h
  rw [← hl] at h
  exact dv_inj s.size hs.2.2 (fun k hk => ht.2.2 k (by omega)) h
theorem num_lt {s : ByteArray} (hs : Txt s) : num s < 10 ^ s.size := dv_lt s.size hs.2.2
theorem fit_pow (m k : Nat) (h : m < 9 * k) : 10 ^ m < 4294967296 ^ k := by
  have h1 : 10 ^ m < 10 ^ (9 * k) := Nat.pow_lt_pow_right (by omega) h
  have h2 : 10 ^ (9 * k) = (10 ^ 9) ^ k := Nat.pow_mul 10 9 k
  have h3 : (10 ^ 9) ^ k ≤ 4294967296 ^ k := Nat.pow_le_pow_left (by decide) k
  omega
end Go.Proofs.YtcdkoadobdgbhaaGreatDoor
/- Texts of whole numbers: digits, with a minus ahead of those of one below 0; one number has one text. No program is named here. -/
namespace Go.Proofs.YtcdkoadobdgbhaaGreatDoor

def minus (t : ByteArray) : ByteArray := ByteArray.mk #[45] ++ t
theorem minus_size (t : ByteArray) : (minus t).size = t.size + 1 := by
  unfold minus; rw [ByteArray.size_append]; show 1 + t.size = _; omega
theorem minus_head (t : ByteArray) : bt (minus t) 0 = 45 := by
  have h : 0 < (ByteArray.mk #[45] ++ t).size := by have := minus_size t; unfold minus at this; omega
  unfold minus
  rw [← bt_at _ _ h, ByteArray.getElem_append_left (by show 0 < 1; omega)]
  rfl
theorem minus_tail (t : ByteArray) (k : Nat) (hk : k < t.size) : bt (minus t) (k + 1) = bt t k := by
  have h : k + 1 < (ByteArray.mk #[45] ++ t).size := by have := minus_size t; unfold minus at this; omega
  unfold minus
  rw [← bt_at _ _ h, ← bt_at _ _ hk, ByteArray.getElem_append_right (by show 1 ≤ k + 1; omega)]
  rfl
theorem minus_inj {s t : ByteArray} (h : minus s = minus t) : s = t := by
  have hs : s.size = t.size := by have := congrArg ByteArray.size h; rw [minus_size, minus_size] at this; omega
  refine ext_bt hs fun k hk => ?_
  rw [← minus_tail s k hk, ← minus_tail t k (by omega), h]
theorem bt_extract (s : ByteArray) (k : Nat) (hk : k + 1 < s.size) : bt (s.extract 1 s.size) k = bt s (k + 1) := by
  have h : k < (s.extract 1 s.size).size := by simp; omega
  rw [← bt_at _ _ h, ← bt_at _ _ hk]
  simp [ByteArray.getElem_extract, Nat.add_comm]
theorem minus_split (s : ByteArray) (h : 0 < s.size) (h0 : bt s 0 = 45) : s = minus (s.extract 1 s.size) := by
  have hs : (s.extract 1 s.size).size = s.size - 1 := by simp
  refine ext_bt (by rw [minus_size, hs]; omega) fun k hk => ?_
  match k with
  | 0 => rw [h0, minus_head]
  | k + 1 => rw [minus_tail _ k (by omega), bt_extract s k hk]
/-- s is z's text. -/
def ZTx (s : ByteArray) (z : Int) : Prop := (0 ≤ z ∧ Txt s ∧ num s = z.natAbs) ∨ (z < 0 ∧ ∃ t, s = minus t ∧ Txt t ∧ num t = z.natAbs)
theorem txt_no_minus {s : ByteArray} (h : Txt s) : bt s 0 ≠ 45 := by
  have := h.2.2 0 (by have := h.1; omega); omega
theorem ZTx.inj {s t : ByteArray} {z : Int} (h : ZTx s z) (k : ZTx t z) : s = t := by
  rcases h with ⟨h1, h2, h3⟩ | ⟨h1, s', rfl, h2, h3⟩ <;> rcases k with ⟨k1, k2, k3⟩ | ⟨k1, t', rfl, k2, k3⟩
  · exact num_inj h2 k2 (by omega)
  · omega
  · omega
  · rw [num_inj h2 k2 (by omega)]
theorem ZTx.uniq {s : ByteArray} {z y : Int} (h : ZTx s z) (k : ZTx s y) : z = y := by
  rcases h with ⟨h1, h2, h3⟩ | ⟨h1, s', e1, h2, h3⟩ <;> rcases k with ⟨k1, k2, k3⟩ | ⟨k1, t', e2, k2, k3⟩
  · omega
  · rw [e2] at h2; exact absurd (minus_head _) (txt_no_minus h2)
  · rw [e1] at k2; exact absurd (minus_head _) (txt_no_minus k2)
  · rw [e1] at e2; rw [minus_inj e2] at h3; omega
theorem ZTx.nought {s : ByteArray} {z : Int} (h : ZTx s z) (t : ByteArray) (ht : Txt t) (h0 : num t = 0) : z = 0 ↔ s = t := by
  constructor
  · intro e
    exact h.inj (Or.inl ⟨by omega, ht, by omega⟩)
  · intro e
    rw [e] at h
    exact h.uniq (Or.inl ⟨Int.le_refl 0, ht, by omega⟩)
theorem ZTx.sign {s : ByteArray} {z : Int} (h : ZTx s z) : 0 < s.size ∧ (z < 0 ↔ bt s 0 = 45) := by
  rcases h with ⟨h1, h2, h3⟩ | ⟨h1, t, rfl, h2, h3⟩
  · exact ⟨by have := h2.1; omega, by have := txt_no_minus h2; omega⟩
  · exact ⟨by rw [minus_size]; omega, by rw [minus_head]; omega⟩
/-- Whether the bytes are a whole number's text, as both readers ask it. -/
theorem ztx_cases (s : ByteArray) : (bt s 0 ≠ 45 ∧ ((∃ z, 0 ≤ z ∧ ZTx s z ∧ Txt s ∧ z = (num s : Int)) ∨ (¬ Txt s ∧ ∀ z, ¬ ZTx s z))) ∨
    (bt s 0 = 45 ∧ 0 < s.size ∧ s = minus (s.extract 1 s.size) ∧ ((Txt (s.extract 1 s.size) ∧ num (s.extract 1 s.size) ≠ 0 ∧ ZTx s (-(num (s.extract 1 s.size) : Int))) ∨ (Txt (s.extract 1 s.size) ∧ num (s.extract 1 s.size) = 0 ∧ ∀ z, ¬ ZTx s z) ∨ (¬ Txt (s.extract 1 s.size) ∧ ∀ z, ¬ ZTx s z))) := by
  by_cases h : bt s 0 = 45
  · have hs : 0 < s.size := by
      rcases Nat.eq_zero_or_pos s.size with e | e
      · rw [bt, dif_neg (by omega)] at h; omega
      · exact e
    have hm := minus_split s hs h
    refine Or.inr ⟨h, hs, hm, ?_⟩
    have hno : ∀ z, ZTx s z → Txt (s.extract 1 s.size) ∧ num (s.extract 1 s.size) ≠ 0 := by
      intro z hz
      rcases hz with ⟨_, h2, _⟩ | ⟨h1, t, e, h2, h3⟩
      · exact absurd h (txt_no_minus h2)
      · have := minus_inj (hm.symm.trans e)
        rw [this]; exact ⟨h2, by omega⟩
    by_cases ht : Txt (s.extract 1 s.size)
    · by_cases h0 : num (s.extract 1 s.size) = 0
      · exact Or.inr (Or.inl ⟨ht, h0, fun z hz => (hno z hz).2 h0⟩)
      · exact Or.inl ⟨ht, h0, Or.inr ⟨by omega, _, hm, ht, by omega⟩⟩
    · exact Or.inr (Or.inr ⟨ht, fun z hz => ht (hno z hz).1⟩)
  · refine Or.inl ⟨h, ?_⟩
    by_cases ht : Txt s
    · exact Or.inl ⟨_, Int.natCast_nonneg _, Or.inl ⟨Int.natCast_nonneg _, ht, by omega⟩, ht, rfl⟩
    · refine Or.inr ⟨ht, fun z hz => ?_⟩
      rcases hz with ⟨_, h2, _⟩ | ⟨h1, t, e, h2, h3⟩
      · exact ht h2
      · rw [e] at h; exact h (minus_head t)
end Go.Proofs.YtcdkoadobdgbhaaGreatDoor
/- Long division, in plain numbers: what holds of the rest and of the quotient's digits, round by round. No program is named here. -/
namespace Go.Proofs.YtcdkoadobdgbhaaGreatDoor
set_option linter.unusedVariables false

/-- Ahead of the digit at place p - 1: R is the rest, Q the quotient so far. -/
def LongRel (R Q : List Nat) (Dv Av n c p : Nat) : Prop := R.length = n ∧ Bd R ∧ Q.length = c ∧ Bd Q ∧ (∀ j, j < p → lg Q j = 0) ∧ val R < Dv * 4294967296 ^ p ∧ val R + val Q * Dv = Av
/-- A digit g that was taken off; bl is 1 where the window has wrapped round. -/
def InRel (S : List Nat) (V0 Dv n off nb g bl : Nat) : Prop := S.length = n ∧ Bd S ∧ (∀ j, off + nb < j → lg S j = 0) ∧ g < 4294967296 ∧ bl ≤ 1 ∧ pv S (off + nb + 1) + g * Dv * 4294967296 ^ off = V0 + bl * 4294967296 ^ (off + nb + 1) ∧ V0 < (g + 1) * Dv * 4294967296 ^ off

theorem val_top (B : List Nat) (m nb : Nat) (hl : B.length = nb) (hm : nb = m + 1) : val B = pv B m + lg B m * 4294967296 ^ m := by
  unfold val; rw [hl, hm]; simp only [pv]
theorem val_ge_top (B : List Nat) (m nb : Nat) (hl : B.length = nb) (hm : nb = m + 1) (ht : lg B m ≠ 0) : 4294967296 ^ m ≤ val B := by
  rw [val_top B m nb hl hm]
  have : 1 * 4294967296 ^ m ≤ lg B m * 4294967296 ^ m := Nat.mul_le_mul_right _ (by omega)
  omega
theorem pow_pos32 (n : Nat) : 0 < 4294967296 ^ n := Nat.pow_pos (by decide)
/-- The divisor moved up: it keeps its length, and its last limb is not 0. -/
theorem up_take (B M : List Nat) (nb m s : Nat) (hB : Bd B) (hM : Bd M) (hBl : B.length = nb) (hm : nb = m + 1) (hMl : M.length = nb + 1) (ht : lg B m ≠ 0) (hs : lg B m * 2 ^ s < 4294967296) (hv : val M = val B * 2 ^ s) :
    (M.take nb).length = nb ∧ Bd (M.take nb) ∧ val (M.take nb) = val B * 2 ^ s ∧ lg (M.take nb) m ≠ 0 := by
  have hl : (M.take nb).length = nb := by simp; omega
  have hvB := val_top B m nb hBl hm
  have hlt := pv_lt hB m
  have hp := Nat.two_pow_pos s
  have hPp := pow_pos32 m
  have h1 : val B * 2 ^ s < 4294967296 ^ nb := by
    have a2 : val B + 1 ≤ (lg B m + 1) * 4294967296 ^ m := by rw [Nat.add_mul]; omega
    have e : 4294967296 ^ nb = 4294967296 * 4294967296 ^ m := by rw [hm, Nat.pow_succ, Nat.mul_comm]
    -- lg B m * 2^s + 2^s <= 2^32, as both are multiples of 2^s
    have hs32 : s ≤ 32 := by
      rcases Nat.lt_or_ge 32 s with h | h
      · have : 2 ^ 32 ≤ 2 ^ s := Nat.pow_le_pow_right (by decide) (by omega)
        have : 1 * 2 ^ s ≤ lg B m * 2 ^ s := Nat.mul_le_mul_right _ (by omega)
        omega
      · exact h
    obtain ⟨t, hst⟩ : ∃ t, s + t = 32 := ⟨32 - s, by omega⟩
    have e32 : (4294967296 : Nat) = 2 ^ t * 2 ^ s := by rw [← Nat.pow_add, show t + s = 32 by omega]
    have a3 : lg B m + 1 ≤ 2 ^ t := by
      rw [e32] at hs
      exact Nat.lt_of_mul_lt_mul_right hs
    have a4 : val B + 1 ≤ 2 ^ t * 4294967296 ^ m := Nat.le_trans a2 (Nat.mul_le_mul_right _ a3)
    have a5 : (val B + 1) * 2 ^ s ≤ 2 ^ t * 4294967296 ^ m * 2 ^ s := Nat.mul_le_mul_right _ a4
    have e2 : 2 ^ t * 4294967296 ^ m * 2 ^ s = 4294967296 ^ nb := by
      rw [e, Nat.mul_right_comm, ← e32]
    rw [e2, Nat.add_mul] at a5
    omega
  have hz : ∀ j, nb ≤ j → lg M j = 0 := by
    intro j hj
    by_cases hj2 : nb + 1 ≤ j
    · exact lg_past M j (by omega)
    · have hj3 : j = nb := by omega
      subst hj3
      have hvM : val M = pv M j + lg M j * 4294967296 ^ j := by unfold val; rw [hMl]; simp only [pv]
      rcases Nat.eq_zero_or_pos (lg M j) with h0 | h0
      · exact h0
      · have : 1 * 4294967296 ^ j ≤ lg M j * 4294967296 ^ j := Nat.mul_le_mul_right _ h0
        omega
  have htv : val (M.take nb) = val B * 2 ^ s := by rw [take_val M nb (by omega) hz]; exact hv
  refine ⟨hl, Bd_take hM nb, htv, ?_⟩
  intro h0
  have h2 := val_top (M.take nb) m nb hl hm
  rw [h0] at h2
  have h3 := pv_lt (Bd_take hM nb) m
  have h4 := val_ge_top B m nb hBl hm ht
  have h5 : val B * 1 ≤ val B * 2 ^ s := Nat.mul_le_mul_left _ hp
  omega
theorem div_begin (A B N : List Nat) (na nb m c s : Nat) (hA : Bd A) (hAl : A.length = na) (hBl : B.length = nb) (hm : nb = m + 1) (hab : nb ≤ na) (hc : c = na - nb + 1) (ht : lg B m ≠ 0) (hN : Bd N) (hNl : N.length = na + 1) (hNv : val N = val A * 2 ^ s) :
    LongRel N (List.replicate c 0) (val B * 2 ^ s) (val A * 2 ^ s) (na + 1) c c := by
  have hz : val (List.replicate c 0) = 0 := pv_zero fun j _ => lg_rep c j
  refine ⟨hNl, hN, by simp, Bd_rep c, fun j _ => lg_rep c j, ?_, by rw [hz, hNv]; simp⟩
  have h1 := val_lt hA
  rw [hAl, show na = m + c by omega, Nat.pow_add] at h1
  have h2 := val_ge_top B m nb hBl hm ht
  have h3 : 4294967296 ^ m * 4294967296 ^ c ≤ val B * 4294967296 ^ c := Nat.mul_le_mul_right _ h2
  have h4 : val A < val B * 4294967296 ^ c := by omega
  rw [hNv, Nat.mul_right_comm]
  exact Nat.mul_lt_mul_of_pos_right h4 (Nat.two_pow_pos s)
/-- A number below a power has noughts above. -/
theorem high_zero {R : List Nat} (hb : Bd R) (k : Nat) (h : val R < 4294967296 ^ k) : ∀ j, k ≤ j → lg R j = 0 := by
  intro j hj
  rcases Nat.eq_zero_or_pos (lg R j) with h0 | h0
  · exact h0
  · exfalso
    have hjl : j < R.length := by
      rcases Nat.lt_or_ge j R.length with h1 | h1
      · exact h1
      · rw [lg_past R j h1] at h0; omega
    have h1 : pv R (j + 1) ≤ val R := pv_le R (j + 1) R.length hjl
    simp only [pv] at h1
    have h2 : 4294967296 ^ k ≤ 4294967296 ^ j := Nat.pow_le_pow_right (by decide) hj
    have h3 : 1 * 4294967296 ^ j ≤ lg R j * 4294967296 ^ j := Nat.mul_le_mul_right _ h0
    omega
theorem val_pv (R : List Nat) (k : Nat) (hz : ∀ j, k ≤ j → lg R j = 0) : val R = pv R k := by
  rcases Nat.le_total k R.length with h | h
  · exact pv_ge R k R.length (fun j h1 _ => hz j h1) h
  · exact (pv_val R k h).symm
/-- The window's worth by its top two limbs. -/
theorem pv_two (R : List Nat) (off m nb : Nat) (hm : nb = m + 1) : pv R (off + nb + 1) = pv R (off + m) + (lg R (off + nb) * 4294967296 + lg R (off + m)) * 4294967296 ^ (off + m) := by
  subst hm
  have e : off + (m + 1) = off + m + 1 := by omega
  rw [e]
  generalize off + m = k
  simp only [pv]
  rw [Nat.pow_succ, Nat.add_mul, Nat.mul_assoc, Nat.mul_comm 4294967296 (4294967296 ^ k)]
  omega
theorem div_guess (R Q D : List Nat) (Dv Av n c off nb m : Nat) (hR : LongRel R Q Dv Av n c (off + 1)) (hD : Bd D) (hDl : D.length = nb) (hm : nb = m + 1) (hDv : val D = Dv) (hd0 : lg D m ≠ 0) :
    (∀ j, off + nb < j → lg R j = 0) ∧ val R = pv R (off + nb + 1) ∧ pv R (off + nb + 1) < (min ((lg R (off + nb) * 4294967296 + lg R (off + m)) / lg D m) 4294967295 + 1) * Dv * 4294967296 ^ off := by
  obtain ⟨h1, h2, h3, h4, h5, h6, h7⟩ := hR
  have hDlt : Dv < 4294967296 ^ nb := by have := val_lt hD; rw [hDl, hDv] at this; exact this
  have hlt : val R < 4294967296 ^ (off + nb + 1) := by
    have : Dv * 4294967296 ^ (off + 1) ≤ 4294967296 ^ nb * 4294967296 ^ (off + 1) := Nat.mul_le_mul_right _ (by omega)
    rw [← Nat.pow_add, show nb + (off + 1) = off + nb + 1 by omega] at this
    omega
  have hz := high_zero h2 _ hlt
  have hv := val_pv R _ hz
  refine ⟨fun j hj => hz j (by omega), hv, ?_⟩
  have htwo := pv_two R off m nb hm
  have hlow := pv_lt h2 (off + m)
  have hdv := val_top D m nb hDl hm
  have hpo := pow_pos32 off
  have hpm := pow_pos32 m
  rw [← hv] at htwo ⊢
  generalize val R = V at *
  generalize lg R (off + nb) * 4294967296 + lg R (off + m) = top at *
  have hdt : 0 < lg D m := by omega
  generalize lg D m = dt at *
  rcases Nat.le_total (top / dt) 4294967295 with hq | hq
  · rw [show min (top / dt) 4294967295 = top / dt by omega]
    have h8 : top + 1 ≤ (top / dt + 1) * dt := by
      have := Nat.div_add_mod top dt
      have h9 := Nat.mod_lt top hdt
      rw [Nat.add_mul, Nat.one_mul, Nat.mul_comm (top / dt)]
      omega
    generalize top / dt = q at *
    have h9 : (top + 1) * 4294967296 ^ (off + m) ≤ (q + 1) * dt * 4294967296 ^ (off + m) := Nat.mul_le_mul_right _ h8
    have h10 : (q + 1) * dt * 4294967296 ^ (off + m) = (q + 1) * (dt * 4294967296 ^ m) * 4294967296 ^ off := by
      rw [Nat.pow_add, Nat.mul_comm (4294967296 ^ off), ← Nat.mul_assoc, Nat.mul_assoc (q + 1)]
    have h11 : (q + 1) * (dt * 4294967296 ^ m) * 4294967296 ^ off ≤ (q + 1) * Dv * 4294967296 ^ off := Nat.mul_le_mul_right _ (Nat.mul_le_mul_left _ (by omega))
    rw [Nat.add_mul] at h9
    omega
  · rw [show min (top / dt) 4294967295 = 4294967295 by omega]
    rw [Nat.pow_succ, Nat.mul_comm (4294967296 ^ off), ← Nat.mul_assoc, Nat.mul_comm Dv] at h6
    exact h6
theorem in_first (R S : List Nat) (V0 Dv n off nb g b : Nat) (hz : ∀ j, off + nb < j → lg R j = 0) (hV : pv R (off + nb + 1) = V0) (hg : g < 4294967296) (hlt : V0 < (g + 1) * Dv * 4294967296 ^ off)
    (hl : S.length = n) (hb : Bd S) (hb1 : b ≤ 1) (hk : ∀ j, off + nb < j → lg S j = lg R j) (hv : pv S (off + nb + 1) + g * Dv * 4294967296 ^ off = pv R (off + nb + 1) + b * 4294967296 ^ (off + nb + 1)) : InRel S V0 Dv n off nb g b :=
  ⟨hl, hb, fun j hj => by rw [hk j hj]; exact hz j hj, hg, hb1, by rw [hv, hV], hlt⟩
theorem in_pos {S : List Nat} {V0 Dv n off nb g : Nat} (h : InRel S V0 Dv n off nb g 1) : 1 ≤ g := by
  obtain ⟨h1, h2, h3, h4, h5, h6, h7⟩ := h
  have hlt := pv_lt h2 (off + nb + 1)
  rw [Nat.one_mul] at h6
  rcases Nat.eq_zero_or_pos g with h0 | h0
  · subst h0; rw [Nat.zero_mul, Nat.zero_mul] at h6; omega
  · exact h0
theorem in_next (S P : List Nat) (V0 Dv n off nb g b : Nat) (h : InRel S V0 Dv n off nb g 1) (hl : P.length = n) (hb : Bd P) (hb1 : b ≤ 1) (hk : ∀ j, off + nb < j → lg P j = lg S j)
    (hv : pv P (off + nb + 1) + b * 4294967296 ^ (off + nb + 1) = pv S (off + nb + 1) + Dv * 4294967296 ^ off) : 1 ≤ g ∧ InRel P V0 Dv n off nb (g - 1) (1 - b) := by
  obtain ⟨h1, h2, h3, h4, h5, h6, h7⟩ := h
  have hlt := pv_lt h2 (off + nb + 1)
  rw [Nat.one_mul] at h6
  have hg : 1 ≤ g := by
    rcases Nat.eq_zero_or_pos g with h0 | h0
    · subst h0; rw [Nat.zero_mul, Nat.zero_mul] at h6; omega
    · exact h0
  obtain ⟨k, rfl⟩ : ∃ k, g = k + 1 := ⟨g - 1, by omega⟩
  rw [Nat.add_sub_cancel]
  refine ⟨hg, hl, hb, fun j hj => by rw [hk j hj]; exact h3 j hj, by omega, by omega, ?_, by omega⟩
  have e : (k + 1) * Dv * 4294967296 ^ off = k * Dv * 4294967296 ^ off + Dv * 4294967296 ^ off := by rw [Nat.add_mul, Nat.one_mul, Nat.add_mul]
  rw [e] at h6
  rcases (show b = 0 ∨ b = 1 by omega) with rfl | rfl
  · simp only [Nat.zero_mul, Nat.sub_zero, Nat.one_mul] at *; omega
  · simp only [Nat.zero_mul, Nat.sub_self, Nat.one_mul] at *; omega
theorem val_set (Q : List Nat) (off g : Nat) (h : off < Q.length) (h0 : lg Q off = 0) : val (Q.set off g) = val Q + g * 4294967296 ^ off := by
  unfold val
  rw [List.length_set]
  have key : ∀ k, pv (Q.set off g) k = pv Q k + if off < k then g * 4294967296 ^ off else 0 := by
    intro k
    induction k with
    | zero => simp [pv]
    | succ k ih =>
      simp only [pv]
      rw [ih]
      by_cases e : off = k
      · subst e
        rw [lg_set_same Q off g h, h0]; simp
      · rw [lg_set_other Q off g k e]
        by_cases e2 : off < k
        · rw [if_pos e2, if_pos (by omega)]; omega
        · rw [if_neg e2, if_neg (by omega)]; omega
  rw [key, if_pos h]
theorem div_next (R S Q : List Nat) (Dv Av n c off nb g : Nat) (hR : LongRel R Q Dv Av n c (off + 1)) (hoc : off < c) (h : InRel S (val R) Dv n off nb g 0) : LongRel S (Q.set off g) Dv Av n c off := by
  obtain ⟨h1, h2, h3, h4, h5, h6, h7⟩ := hR
  obtain ⟨g1, g2, g3, g4, g5, g6, g7⟩ := h
  have hv := val_pv S (off + nb + 1) (fun j hj => g3 j (by omega))
  rw [Nat.zero_mul, Nat.add_zero, ← hv] at g6
  refine ⟨g1, g2, by rw [List.length_set]; exact h3, Bd_set h4 _ _ g4, fun j hj => ?_, ?_, ?_⟩
  · rw [lg_set_other Q off g j (by omega)]; exact h5 j (by omega)
  · rw [Nat.add_mul, Nat.one_mul, Nat.add_mul] at g7
    omega
  · rw [val_set Q off g (by omega) (h5 off (by omega)), Nat.add_mul, Nat.mul_right_comm g]
    omega
theorem div_end (R Q : List Nat) (Av Bv n c s : Nat) (hR : LongRel R Q (Bv * 2 ^ s) (Av * 2 ^ s) n c 0) : val Q = Av / Bv ∧ val R / 2 ^ s = Av % Bv := by
  obtain ⟨h1, h2, h3, h4, h5, h6, h7⟩ := hR
  have hp := Nat.two_pow_pos s
  simp only [Nat.pow_zero, Nat.mul_one] at h6
  have e : val Q * (Bv * 2 ^ s) = val Q * Bv * 2 ^ s := by rw [Nat.mul_assoc]
  rw [e] at h7
  generalize val Q = q at *
  generalize val R = r at *
  have hB : 0 < Bv := by
    rcases Nat.eq_zero_or_pos Bv with h0 | h0
    · subst h0; simp at h6
    · exact h0
  have hle : q * Bv ≤ Av := by
    have : q * Bv * 2 ^ s ≤ Av * 2 ^ s := by omega
    exact Nat.le_of_mul_le_mul_right this hp
  obtain ⟨d, hd⟩ : ∃ d, Av = q * Bv + d := ⟨Av - q * Bv, by omega⟩
  have hr : r = d * 2 ^ s := by rw [hd, Nat.add_mul] at h7; omega
  have hdB : d < Bv := by rw [hr] at h6; exact Nat.lt_of_mul_lt_mul_right h6
  rw [hr, Nat.mul_div_cancel _ hp, hd]
  constructor
  · rw [Nat.mul_comm q, Nat.mul_add_div hB, Nat.div_eq_of_lt hdB]; omega
  · rw [Nat.mul_comm q, Nat.mul_add_mod, Nat.mod_eq_of_lt hdB]
end Go.Proofs.YtcdkoadobdgbhaaGreatDoor
/- grid, plain: lines, what they join, the least zone that is come to. -/
namespace Go.Proofs.YtcdkoadobdgbhaaGreatDoor
set_option linter.unusedVariables false
/-- A line: from, to, cap. -/
structure Ln where
  f : Int
  t : Int
  c : Int
instance : Inhabited Ln := ⟨⟨0, 0, 0⟩⟩
/-- What lines that may carry something join. -/
inductive Con (S : List Ln) : Nat → Nat → Prop
  | refl (a : Nat) : Con S a a
  | fwd {a : Nat} {l : Ln} : Con S a l.f.toNat → l ∈ S → 0 < l.c → Con S a l.t.toNat
  | bwd {a : Nat} {l : Ln} : Con S a l.t.toNat → l ∈ S → 0 < l.c → Con S a l.f.toNat
theorem Con.trans {S : List Ln} {a b c : Nat} (h : Con S a b) (k : Con S b c) : Con S a c := by
  induction k with
  | refl => exact h
  | fwd _ m p ih => exact .fwd ih m p
  | bwd _ m p ih => exact .bwd ih m p
theorem Con.one {S : List Ln} {l : Ln} (m : l ∈ S) (p : 0 < l.c) : Con S l.f.toNat l.t.toNat := .fwd (.refl _) m p
theorem Con.eno {S : List Ln} {l : Ln} (m : l ∈ S) (p : 0 < l.c) : Con S l.t.toNat l.f.toNat := .bwd (.refl _) m p
theorem Con.symm {S : List Ln} {a b : Nat} (h : Con S a b) : Con S b a := by
  induction h with
  | refl => exact .refl _
  | fwd _ m p ih => exact (Con.eno m p).trans ih
  | bwd _ m p ih => exact (Con.one m p).trans ih
/-- Lines of a grid that may be. -/
def Fit (S : List Ln) (n : Nat) : Prop := ∀ l ∈ S, 0 ≤ l.f ∧ l.f < n ∧ 0 ≤ l.t ∧ l.t < n ∧ l.f ≠ l.t ∧ 0 ≤ l.c
theorem Con.lt {S : List Ln} {n a b : Nat} (hS : Fit S n) (h : Con S a b) (ha : a < n) : b < n := by
  induction h with
  | refl => exact ha
  | fwd _ m p ih => have := hS _ m; omega
  | bwd _ m p ih => have := hS _ m; omega
end Go.Proofs.YtcdkoadobdgbhaaGreatDoor
