/- What the document's one has read so far, in plain bytes. -/
import Derived.Test.YtfpifjejooineaaRcNumber
namespace Go.Proofs.Ytfpifjejooineaa.Rc
set_option linter.unusedVariables false
set_option linter.unusedSimpArgs false

theorem of_get (s : ByteArray) (k : Nat) (h : k < s.size) : (Bs.of s)[k]? = some (UInt8.ofNat (bt s k)) := by
  rw [List.getElem?_eq_getElem (by rw [of_len]; exact h), ← of_at s k h, u8_of]
theorem of_extract (s : ByteArray) (a b : Nat) : Bs.of (s.extract a b) = ((Bs.of s).drop a).take (b - a) := by
  simp [Bs.of, ByteArray.data_extract, List.extract_eq_take_drop]
theorem of_extract_end (s : ByteArray) (a : Nat) : Bs.of (s.extract a s.size) = (Bs.of s).drop a := by
  rw [of_extract, List.take_of_length_le (by rw [List.length_drop, of_len]; exact Nat.le_refl _)]
theorem of_extract_head (s : ByteArray) (b : Nat) : Bs.of (s.extract 0 b) = (Bs.of s).take b := by
  rw [of_extract, List.drop_zero, Nat.sub_zero]
/-- Every record that is ahead has this kind, this name, n numbers, of which the first j are M; behind place k there stand the others, and the text. -/
def Ah (s : ByteArray) (kd : Int) (who : ByteArray) (n j : Nat) (M : List Int) (k : Nat) : Prop :=
  ∀ r a, Good r → Bs.of s = enc r ++ a → r.kind = kd ∧ r.who = who ∧ r.nums.length = n ∧ r.nums.take j = M ∧ (Bs.of s).drop k = gs (r.nums.drop j) ++ (tx 2 (Bs.of r.text) ++ a)
theorem enc_flat (r : Rec) (a : Bs) : enc r ++ a = UInt8.ofNat r.kind.toNat :: UInt8.ofNat r.who.size :: (Bs.of r.who ++ (UInt8.ofNat r.nums.length :: (gs r.nums ++ (tx 2 (Bs.of r.text) ++ a)))) := by
  simp [enc, tx, cnt1, of_len]
theorem no_small {s : ByteArray} (h : s.size < 3) : No (Bs.of s) := no_short (by rw [of_len]; omega)
theorem who_ahead {s : ByteArray} {r : Rec} {a : Bs} (g : Good r) (h3 : 3 ≤ s.size) (e : Bs.of s = enc r ++ a) : r.kind = (bt s 0 : Int) ∧ r.who.size = bt s 1 := by
  rw [enc_flat] at e
  have h0 := of_get s 0 (by omega)
  have h1 := of_get s 1 (by omega)
  rw [e] at h0 h1
  simp only [List.getElem?_cons_zero, List.getElem?_cons_succ, Option.some.injEq] at h0 h1
  have k0 := g.kind
  have k1 := g.who
  have e0 := u8_inj (by omega) (bt_lt s 0) h0
  have e1 := u8_inj (by omega) (bt_lt s 1) h1
  exact ⟨by omega, e1⟩
theorem no_who {s : ByteArray} (h3 : 3 ≤ s.size) (h : s.size < 3 + bt s 1) : No (Bs.of s) := by
  intro r a g e
  have h1 := (who_ahead g h3 e).2
  rw [enc_flat] at e
  have := congrArg List.length e
  simp only [of_len, List.length_cons, List.length_append] at this
  omega
theorem ah_first {s : ByteArray} (h3 : 3 ≤ s.size) (h : 3 + bt s 1 ≤ s.size) : Ah s (bt s 0 : Int) (s.extract 2 (2 + bt s 1)) (bt s (2 + bt s 1)) 0 [] (2 + bt s 1 + 1) := by
  intro r a g e
  obtain ⟨e0, e1⟩ := who_ahead g h3 e
  rw [enc_flat] at e
  have hw : Bs.of (s.extract 2 (2 + bt s 1)) = Bs.of r.who := by
    rw [of_extract, e]
    simp only [List.drop_succ_cons, List.drop_zero]
    rw [show 2 + bt s 1 - 2 = (Bs.of r.who).length by rw [of_len]; omega, List.take_left]
  have h2 := of_get s (2 + bt s 1) (by omega)
  have hd : (Bs.of s).drop (2 + bt s 1) = UInt8.ofNat r.nums.length :: (gs r.nums ++ (tx 2 (Bs.of r.text) ++ a)) := by
    rw [e, show 2 + bt s 1 = (Bs.of r.who).length + 1 + 1 by rw [of_len]; omega]
    simp only [List.drop_succ_cons]
    rw [List.drop_left]
  have h2' : ((Bs.of s).drop (2 + bt s 1))[0]? = some (UInt8.ofNat (bt s (2 + bt s 1))) := by rw [List.getElem?_drop]; simpa using h2
  rw [hd] at h2'
  simp only [List.getElem?_cons_zero, Option.some.injEq] at h2'
  have e2 := u8_inj (by have := g.nums; omega) (bt_lt s _) h2'
  refine ⟨e0, (of_inj hw).symm, e2, by simp, ?_⟩
  rw [← List.drop_drop, hd]
  simp
theorem Ah.step {s : ByteArray} {kd v : Int} {who : ByteArray} {n j k m : Nat} {M : List Int} (h : Ah s kd who n j M k) (hj : j < n) (hN : NumOf (s.extract k s.size) v m) : Ah s kd who n (j + 1) (M ++ [v]) (k + m) := by
  intro r a g e
  obtain ⟨h1, h2, h3, h4, h5⟩ := h r a g e
  have hlt : j < r.nums.length := by omega
  rw [List.drop_eq_getElem_cons hlt, gs, List.append_assoc] at h5
  obtain ⟨e1, e2⟩ := hN.2.2 r.nums[j] _ (g.fit _ (List.getElem_mem hlt)) ((of_extract_end s k).trans h5)
  refine ⟨h1, h2, h3, ?_, ?_⟩
  · rw [List.take_add_one, h4, e2]; simp [List.getElem?_eq_getElem hlt]
  · rw [← List.drop_drop, h5, e1, List.drop_left]
theorem Ah.stop {s : ByteArray} {kd v : Int} {who : ByteArray} {n j k : Nat} {M : List Int} (h : Ah s kd who n j M k) (hj : j < n) (hN : NumOf (s.extract k s.size) v 0) : No (Bs.of s) := by
  intro r a g e
  obtain ⟨h1, h2, h3, h4, h5⟩ := h r a g e
  have hlt : j < r.nums.length := by omega
  rw [List.drop_eq_getElem_cons hlt, gs, List.append_assoc] at h5
  obtain ⟨e1, _⟩ := hN.2.2 r.nums[j] _ (g.fit _ (List.getElem_mem hlt)) ((of_extract_end s k).trans h5)
  have := grp_pos (zz r.nums[j])
  omega
theorem Ah.last {s : ByteArray} {kd : Int} {who : ByteArray} {n k : Nat} {M : List Int} (h : Ah s kd who n n M k) {r : Rec} {a : Bs} (g : Good r) (e : Bs.of s = enc r ++ a) : r.kind = kd ∧ r.who = who ∧ r.nums = M ∧ (Bs.of s).drop k = tx 2 (Bs.of r.text) ++ a := by
  obtain ⟨h1, h2, h3, h4, h5⟩ := h r a g e
  rw [show r.nums.drop n = [] from List.drop_eq_nil_of_le (by omega)] at h5
  rw [List.take_of_length_le (by omega)] at h4
  exact ⟨h1, h2, h4, by simpa [gs] using h5⟩
theorem Ah.noend {s : ByteArray} {kd : Int} {who : ByteArray} {n k : Nat} {M : List Int} (h : Ah s kd who n n M k) (hk : k ≤ s.size) (hs : s.size < k + 2) : No (Bs.of s) := by
  intro r a g e
  obtain ⟨_, _, _, h4⟩ := h.last g e
  have := congrArg List.length h4
  rw [List.length_drop, of_len, List.length_append, tx, List.length_append, cnt_len] at this
  omega
theorem Ah.text {s : ByteArray} {kd : Int} {who : ByteArray} {n k : Nat} {M : List Int} (h : Ah s kd who n n M k) (hk : k + 2 ≤ s.size) {r : Rec} {a : Bs} (g : Good r) (e : Bs.of s = enc r ++ a) : r.text.size = bt s k * 256 + bt s (k + 1) ∧ (Bs.of s).drop (k + 2) = Bs.of r.text ++ a := by
  obtain ⟨_, _, _, h4⟩ := h.last g e
  rw [tx, List.append_assoc] at h4
  have ht := g.text
  obtain ⟨_, e2, e3⟩ := cnt_ahead (s := s) (k := k) (K := 2) (by omega) (by rw [of_len]; omega) h4 (by omega)
  rw [of_len] at e2
  simp only [bev, Nat.zero_mul, Nat.zero_add, Nat.add_zero] at e2
  exact ⟨e2.symm, e3⟩
theorem Ah.notext {s : ByteArray} {kd : Int} {who : ByteArray} {n k : Nat} {M : List Int} (h : Ah s kd who n n M k) (hk : k + 2 ≤ s.size) (hs : s.size < k + 2 + (bt s k * 256 + bt s (k + 1))) : No (Bs.of s) := by
  intro r a g e
  obtain ⟨h1, h2⟩ := h.text hk g e
  have := congrArg List.length h2
  rw [List.length_drop, of_len, List.length_append, of_len] at this
  omega
/-- The record that is ahead is what was read. -/
theorem Ah.all {s : ByteArray} {kd : Int} {who : ByteArray} {n k z : Nat} {M : List Int} (h : Ah s kd who n n M k) (hz : z = bt s k * 256 + bt s (k + 1)) (hk : k + 2 + z ≤ s.size) {r : Rec} {a : Bs} (g : Good r) (e : Bs.of s = enc r ++ a) : r = ⟨kd, who, M, s.extract (k + 2) (k + 2 + z)⟩ ∧ (enc r).length = k + 2 + z := by
  obtain ⟨h1, h2, h3, _⟩ := h.last g e
  obtain ⟨h4, h5⟩ := h.text (by omega) g e
  have ht : s.extract (k + 2) (k + 2 + z) = r.text := by
    apply of_inj
    rw [of_extract, h5, show k + 2 + z - (k + 2) = (Bs.of r.text).length by rw [of_len]; omega, List.take_left]
  obtain ⟨r1, r2, r3, r4⟩ := r
  simp only at h1 h2 h3 ht h4 h5
  refine ⟨by rw [h1, h2, h3, ht], ?_⟩
  have l1 := congrArg List.length e
  have l2 := congrArg List.length h5
  rw [List.length_append, of_len] at l1
  rw [List.length_drop, List.length_append, of_len, of_len] at l2
  omega
/-- What Encode says of it, told against the bytes. -/
theorem Ah.no {s : ByteArray} {kd : Int} {who : ByteArray} {n k z : Nat} {M : List Int} (h : Ah s kd who n n M k) (hz : z = bt s k * 256 + bt s (k + 1)) (hk : k + 2 + z ≤ s.size) (hf : ∀ x ∈ M, I64 x) (hE : encE ⟨kd, who, M, s.extract (k + 2) (k + 2 + z)⟩ ≠ 0 ∨ encT ⟨kd, who, M, s.extract (k + 2) (k + 2 + z)⟩ ≠ s.extract 0 (k + 2 + z)) : No (Bs.of s) := by
  intro r a g e
  obtain ⟨h1, h2⟩ := h.all hz hk g e
  rw [← h1] at hE
  have h3 : encE r = 0 := (encE_good g.fit).2 g
  rcases hE with hE | hE
  · exact hE h3
  · apply hE
    unfold encT
    rw [if_pos h3]
    apply of_inj
    rw [of_str, of_extract_head, e, ← h2, List.take_left]
theorem one_good {s : ByteArray} {r : Rec} {m : Nat} (hf : ∀ x ∈ r.nums, I64 x) (h1 : encE r = 0) (h2 : encT r = s.extract 0 m) (hm : m ≤ s.size) : Good r ∧ Bs.of s = enc r ++ (Bs.of s).drop m ∧ m = (enc r).length := by
  unfold encT at h2
  rw [if_pos h1] at h2
  have h3 := congrArg Bs.of h2
  rw [of_str, of_extract_head] at h3
  refine ⟨(encE_good hf).1 h1, by rw [h3, List.take_append_drop], ?_⟩
  rw [h3, List.length_take, of_len]; omega
end Go.Proofs.Ytfpifjejooineaa.Rc
