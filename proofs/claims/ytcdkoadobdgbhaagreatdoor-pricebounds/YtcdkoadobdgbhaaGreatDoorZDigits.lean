/- Lists of decimal digits: what they are worth; the library's numerals; a text out of such a list. -/
import Derived.Test.YtcdkoadobdgbhaaGreatDoorPk0
import Derived.Lib.ItoaNum
import Derived.Lib.Repeat
namespace Go.Proofs.YtcdkoadobdgbhaaGreatDoor
open Go
set_option linter.unusedVariables false
set_option linter.unusedSimpArgs false

/-- What a list of digits is worth. -/
def lv (l : List UInt8) : Nat := l.foldl (fun a b => a * 10 + (b.toNat - 48)) 0
def Dg (l : List UInt8) : Prop := ∀ b ∈ l, 48 ≤ b.toNat ∧ b.toNat ≤ 57
theorem lv_from (l : List UInt8) (a : Nat) : l.foldl (fun a b => a * 10 + (b.toNat - 48)) a = a * 10 ^ l.length + lv l := by
  induction l generalizing a with
  | nil => simp [lv]
  | cons x r ih =>
    simp only [lv, List.foldl_cons, List.length_cons]
    rw [ih, ih (0 * 10 + (x.toNat - 48)), Nat.pow_succ, Nat.add_mul, Nat.mul_assoc, Nat.mul_comm 10]
    simp only [Nat.zero_mul, Nat.zero_add]
    omega
theorem lv_append (l m : List UInt8) : lv (l ++ m) = lv l * 10 ^ m.length + lv m := by
  unfold lv; rw [List.foldl_append]; exact lv_from m _
theorem lv_snoc (l : List UInt8) (b : UInt8) : lv (l ++ [b]) = lv l * 10 + (b.toNat - 48) := by rw [lv_append]; simp [lv]
theorem Dg_append {l m : List UInt8} (hl : Dg l) (hm : Dg m) : Dg (l ++ m) := by
  intro b hb
  rcases List.mem_append.1 hb with h | h
  · exact hl b h
  · exact hm b h
theorem dec_ind (P : Nat → Prop) (h1 : ∀ u, u < 10 → P u) (h2 : ∀ u, ¬ u < 10 → P (u / 10) → P u) (u : Nat) : P u := by
  induction u using Nat.strongRecOn with
  | _ u ih =>
    by_cases h : u < 10
    · exact h1 u h
    · exact h2 u h (ih (u / 10) (by omega))
theorem dec_big {u : Nat} (h : ¬ u < 10) : Lib.decDigits u = Lib.decDigits (u / 10) ++ [UInt8.ofNat (48 + u % 10)] := by rw [Lib.decDigits, dif_neg h]
theorem dig_toNat (d : Nat) (h : d < 10) : (UInt8.ofNat (48 + d)).toNat = 48 + d := by
  rw [UInt8.toNat_ofNat']; omega
theorem lv_dec (u : Nat) : lv (Lib.decDigits u) = u := by
  refine dec_ind (fun u => lv (Lib.decDigits u) = u) ?_ ?_ u
  · intro u h
    rw [Lib.decDigits_one h]
    show 0 * 10 + ((UInt8.ofNat (48 + u)).toNat - 48) = u
    rw [dig_toNat u h]; omega
  · intro u h ih
    rw [dec_big h, lv_snoc, ih, dig_toNat _ (by omega)]; omega
theorem Dg_dec (u : Nat) : Dg (Lib.decDigits u) := by
  refine dec_ind (fun u => Dg (Lib.decDigits u)) ?_ ?_ u
  · intro u h b hb
    rw [Lib.decDigits_one h] at hb
    rw [List.mem_singleton] at hb; rw [hb, dig_toNat u h]; omega
  · intro u h ih
    rw [dec_big h]
    refine Dg_append ih ?_
    intro b hb
    rw [List.mem_singleton] at hb; rw [hb, dig_toNat _ (by omega)]; omega
theorem dec_head (u : Nat) (hu : u ≠ 0) : ∃ a r, Lib.decDigits u = a :: r ∧ a.toNat ≠ 48 := by
  refine dec_ind (fun u => u ≠ 0 → ∃ a r, Lib.decDigits u = a :: r ∧ a.toNat ≠ 48) ?_ ?_ u hu
  · intro u h h0
    exact ⟨_, _, Lib.decDigits_one h, by rw [dig_toNat u h]; omega⟩
  · intro u h ih h0
    obtain ⟨a, r, e, ha⟩ := ih (by omega)
    exact ⟨a, r ++ [UInt8.ofNat (48 + u % 10)], by rw [dec_big h, e]; rfl, ha⟩
theorem dec_len (u : Nat) : (Lib.decDigits u).length = Lib.nDigits u := Lib.decDigits_length u
theorem nDigits_nine (u : Nat) (h : u < 1000000000) : 1 ≤ Lib.nDigits u ∧ Lib.nDigits u ≤ 9 := by
  refine ⟨Lib.nDigits_pos u, ?_⟩
  have key : ∀ k u, u < 10 ^ (k + 1) → Lib.nDigits u ≤ k + 1 := by
    intro k
    induction k with
    | zero => intro u h; rw [Lib.nDigits_small (by simpa using h)]; omega
    | succ k ih =>
      intro u h
      by_cases h1 : u < 10
      · rw [Lib.nDigits_small h1]; omega
      · rw [Lib.nDigits_big h1]
        have := ih (u / 10) (by rw [Nat.pow_succ] at h; omega)
        omega
  exact key 8 u (by simpa using h)
theorem rep_len (c : Nat) : (Lib.repeatL [48] c).length = c := by rw [Lib.repeatL_length]; simp
theorem lv_rep (c : Nat) : lv (Lib.repeatL [48] c) = 0 := by
  induction c with
  | zero => rfl
  | succ c ih =>
    show lv ([48] ++ Lib.repeatL [48] c) = 0
    rw [lv_append, ih]; simp [lv]
theorem Dg_rep (c : Nat) : Dg (Lib.repeatL [48] c) := by
  induction c with
  | zero => intro b hb; simp [Lib.repeatL] at hb
  | succ c ih =>
    show Dg ([48] ++ Lib.repeatL [48] c)
    refine Dg_append ?_ ih
    intro b hb; simp at hb; rw [hb]; decide
/-- i chunks from the top are written. -/
def TxRel (C : List Nat) (i : Nat) (l : List UInt8) : Prop := R.val C = lv l * 1000000000 ^ (C.length - i) + R.pv C (C.length - i) ∧ Dg l ∧ l.length ≤ 9 * i ∧ (i ≠ 0 → ∃ a r, l = a :: r ∧ a.toNat ≠ 48)
theorem TxRel.first {C : List Nat} {m : Nat} (hm : m + 1 = C.length) (hb : R.Bd C) (ht : Top C) : TxRel C 1 (Lib.decDigits (lg C m)) := by
  have h0 : lg C m ≠ 0 := by have := ht (by omega); rw [← hm] at this; exact this
  refine ⟨?_, Dg_dec _, by rw [dec_len]; have := nDigits_nine _ (hb m); omega, fun _ => dec_head _ h0⟩
  rw [lv_dec]
  unfold R.val
  rw [← hm]; simp only [R.pv, Nat.add_sub_cancel]; omega
theorem TxRel.next {C : List Nat} {m i : Nat} {l : List UInt8} (hm : m + 1 + i = C.length) (hi : i ≠ 0) (hb : R.Bd C) (h : TxRel C i l) :
    TxRel C (i + 1) (l ++ Lib.repeatL [48] (9 - Lib.nDigits (lg C m)) ++ Lib.decDigits (lg C m)) := by
  obtain ⟨h1, h2, h3, h4⟩ := h
  have n9 := nDigits_nine _ (hb m)
  have hlen : (Lib.repeatL [48] (9 - Lib.nDigits (lg C m)) ++ Lib.decDigits (lg C m)).length = 9 := by rw [List.length_append, rep_len, dec_len]; omega
  rw [List.append_assoc]
  refine ⟨?_, Dg_append h2 (Dg_append (Dg_rep _) (Dg_dec _)), by rw [List.length_append, hlen]; omega, fun _ => ?_⟩
  · rw [lv_append, hlen, lv_append, lv_rep, lv_dec]
    rw [show C.length - i = m + 1 by omega] at h1
    rw [show C.length - (i + 1) = m by omega, h1]
    rw [show (10 : Nat) ^ 9 = 1000000000 from rfl]
    simp only [R.pv, Nat.pow_succ, Nat.zero_mul, Nat.zero_add]
    generalize 1000000000 ^ m = p
    rw [Nat.add_mul, Nat.mul_comm p, ← Nat.mul_assoc]
    omega
  · obtain ⟨a, r, e, ha⟩ := h4 hi
    exact ⟨a, r ++ (Lib.repeatL [48] (9 - Lib.nDigits (lg C m)) ++ Lib.decDigits (lg C m)), by rw [e]; rfl, ha⟩
theorem bt_list (l : List UInt8) (k : Nat) (h : k < l.length) : bt ⟨l.toArray⟩ k = (l[k]'h).toNat := by
  have hs : k < (⟨l.toArray⟩ : ByteArray).size := by simpa [ByteArray.size] using h
  rw [← bt_at _ k hs]
  rfl
theorem dv_list (l : List UInt8) (k : Nat) (h : k ≤ l.length) : dv ⟨l.toArray⟩ k = lv (l.take k) := by
  induction k with
  | zero => simp [dv, lv]
  | succ k ih =>
    rw [dv, ih (by omega), bt_list l k (by omega), List.take_succ_eq_append_getElem (by omega), lv_snoc]
theorem txt_list (l : List UInt8) (hd : Dg l) (hh : ∃ a r, l = a :: r ∧ a.toNat ≠ 48) : Txt ⟨l.toArray⟩ ∧ num ⟨l.toArray⟩ = lv l := by
  have hs : (⟨l.toArray⟩ : ByteArray).size = l.length := by simp [ByteArray.size]
  obtain ⟨a, r, e, ha⟩ := hh
  have hl : l.length ≠ 0 := by rw [e]; simp
  refine ⟨⟨by rw [hs]; exact hl, fun _ => ?_, fun k hk => ?_⟩, ?_⟩
  · rw [bt_list l 0 (by omega)]
    subst e; exact ha
  · rw [hs] at hk
    rw [bt_list l k hk]
    exact hd _ (List.getElem_mem hk)
  · unfold num
    rw [hs, dv_list l l.length (Nat.le_refl _), List.take_length]
theorem txt_zero : Txt ⟨#[48]⟩ ∧ num ⟨#[48]⟩ = 0 := by
  refine ⟨⟨by decide, by decide, fun k hk => ?_⟩, by decide⟩
  obtain rfl : k = 0 := by have : (⟨#[48]⟩ : ByteArray).size = 1 := rfl; omega
  decide
end Go.Proofs.YtcdkoadobdgbhaaGreatDoor
