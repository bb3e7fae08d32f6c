/- Plain texts: which bytes are a number's text, what it is worth, and that one number has one text. No program is named here. -/
namespace Go.Proofs.YteelnimchlgdmaaDoor

/-- Byte k; 0 behind the end. -/
def bt (s : ByteArray) (k : Nat) : Nat := if h : k < s.size then (s[k]'h).toNat else 0
theorem bt_at (s : ByteArray) (k : Nat) (h : k < s.size) : (s[k]'h).toNat = bt s k := by simp [bt, h]
theorem bt_lt (s : ByteArray) (k : Nat) : bt s k < 256 := by
  unfold bt; split
  · exact UInt8.toNat_lt _
  · omega
/-- The bytes are decimal digits, at least one, no nought ahead of others. -/
def Txt (s : ByteArray) : Prop := s.size ≠ 0 ∧ (1 < s.size → bt s 0 ≠ 48) ∧ ∀ k, k < s.size → 48 ≤ bt s k ∧ bt s k ≤ 57
/-- What the first k digits are worth. -/
def dv (s : ByteArray) : Nat → Nat
  | 0 => 0
  | k + 1 => dv s k * 10 + (bt s k - 48)
def num (s : ByteArray) : Nat := dv s s.size

theorem ext_bt {s t : ByteArray} (h : s.size = t.size) (he : ∀ k, k < s.size → bt s k = bt t k) : s = t := by
  apply ByteArray.ext
  apply Array.ext h
  intro k h1 h2
  have := he k h1
  rw [← bt_at s k h1, ← bt_at t k h2] at this
  exact UInt8.toNat_inj.1 this
theorem dv_lt {s : ByteArray} (n : Nat) (h : ∀ k, k < n → 48 ≤ bt s k ∧ bt s k ≤ 57) : dv s n < 10 ^ n := by
  induction n with
  | zero => simp [dv]
  | succ n ih =>
    have h1 := ih (fun k hk => h k (by omega))
    have h2 := h n (by omega)
    simp only [dv, Nat.pow_succ]; omega
theorem dv_ge {s : ByteArray} (n : Nat) (h0 : 1 ≤ bt s 0 - 48) : 10 ^ n ≤ dv s (n + 1) := by
  induction n with
  | zero => simp only [dv]; omega
  | succ n ih =>
    rw [dv, Nat.pow_succ]; omega
theorem dv_inj {s t : ByteArray} (n : Nat) (hs : ∀ k, k < n → 48 ≤ bt s k ∧ bt s k ≤ 57) (ht : ∀ k, k < n → 48 ≤ bt t k ∧ bt t k ≤ 57) (h : dv s n = dv t n) : ∀ k, k < n → bt s k = bt t k := by
  induction n with
  | zero => intro k hk; omega
  | succ n ih =>
    have a := hs n (by omega)
    have b := ht n (by omega)
    simp only [dv] at h
    intro k hk
    by_cases e : k = n
    · subst e; omega
    · exact ih (fun k hk => hs k (by omega)) (fun k hk => ht k (by omega)) (by omega) k (by omega)
theorem num_len {s t : ByteArray} (hs : Txt s) (ht : Txt t) (h : s.size < t.size) : num s < num t := by
  obtain ⟨s0, s1, s2⟩ := hs
  obtain ⟨t0, t1, t2⟩ := ht
  have h1 := dv_lt s.size s2
  have h2 : 10 ^ s.size ≤ 10 ^ (t.size - 1) := Nat.pow_le_pow_right (by omega) (by omega)
  have h3 := dv_ge (s := t) (t.size - 1) (by have := t1 (by omega); have := t2 0 (by omega); omega)
  rw [show t.size - 1 + 1 = t.size by omega] at h3
  unfold num
  omega
/-- One number has one text. -/
theorem num_inj {s t : ByteArray} (hs : Txt s) (ht : Txt t) (h : num s = num t) : s = t := by
  have hl : s.size = t.size := by
    rcases Nat.lt_trichotomy s.size t.size with h1 | h1 | h1
    · have := num_len hs ht h1; omega
    · exact h1
    · have := num_len ht hs h1; omega
  refine ext_bt hl ?_
  unfold num at h
  rw [← hl] at h
  exact dv_inj s.size hs.2.2 (fun k hk => ht.2.2 k (by omega)) h
theorem num_lt {s : ByteArray} (hs : Txt s) : num s < 10 ^ s.size := dv_lt s.size hs.2.2
theorem fit_pow (m k : Nat) (h : m < 9 * k) : 10 ^ m < 4294967296 ^ k := by
  have h1 : 10 ^ m < 10 ^ (9 * k) := Nat.pow_lt_pow_right (by omega) h
  have h2 : 10 ^ (9 * k) = (10 ^ 9) ^ k := Nat.pow_mul 10 9 k
  have h3 : (10 ^ 9) ^ k ≤ 4294967296 ^ k := Nat.pow_le_pow_left (by decide) k
  omega
end Go.Proofs.YteelnimchlgdmaaDoor
