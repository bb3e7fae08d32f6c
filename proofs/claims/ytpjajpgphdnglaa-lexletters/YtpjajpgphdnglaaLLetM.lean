/- Runes as bytes. -/
import Derived.Test.YtpjajpgphdnglaaLName
import Derived.Laws.Cover4
namespace Go.Proofs.Ytpjajpgphdnglaa
open Go.RowKit
set_option linter.unusedVariables false
set_option linter.unusedSimpArgs false

def encs (ns : List Int) : List UInt8 := ns.flatMap fun n => bl (Utf8.encode n)
theorem runes_bl (ns : List Int) : bl (runesBytes ns) = encs ns := by
  have key : ∀ (ns : List Int) (s : ByteArray), bl (ns.foldl (fun r n => r ++ Utf8.encode n) s) = bl s ++ encs ns := by
    intro ns
    induction ns with
    | nil => intro s; simp [encs]
    | cons n ns ih =>
      intro s
      rw [List.foldl_cons, ih, bl_app]
      simp [encs]
  have := key ns ByteArray.empty
  unfold runesBytes
  rw [this]; rfl
theorem encs_app (a b : List Int) : encs (a ++ b) = encs a ++ encs b := by simp [encs]
/-- Is the number a letter? -/
def isLetZ (n : Int) : Bool := isLet n.toNat && decide (0 ≤ n)
theorem enc_low {c : Nat} (h : c < 128) : bl (Utf8.encode (c : Int)) = [UInt8.ofNat c] := by
  have hv : Utf8.valid (c : Int) = true := by unfold Utf8.valid; simp; omega
  unfold Utf8.encode
  rw [if_pos hv, Int.toNat_natCast]
  simp only [h, if_true]
  rfl
theorem toNat_of {c : Nat} (h : c < 256) : (UInt8.ofNat c).toNat = c := by rw [UInt8.toNat_ofNat']; omega
theorem enc_two {c : Nat} (h1 : ¬ c < 128) (h : c < 2048) : bl (Utf8.encode (c : Int)) = [UInt8.ofNat (192 + c / 64), UInt8.ofNat (128 + c % 64)] := by
  have hv : Utf8.valid (c : Int) = true := by unfold Utf8.valid; simp; omega
  unfold Utf8.encode
  rw [if_pos hv, Int.toNat_natCast]
  simp only [h, h1, if_true, if_false]
  rfl
theorem enc_high (n : Int) (h : ¬ (0 ≤ n ∧ n < 2048)) : ∃ b c r, bl (Utf8.encode n) = b :: c :: r ∧ 224 ≤ b.toNat := by
  unfold Utf8.encode
  obtain ⟨c, hc, hc0⟩ : ∃ c : Nat, c = (if Utf8.valid n then n.toNat else Utf8.runeError) ∧ 2048 ≤ c := by
    refine ⟨_, rfl, ?_⟩
    split
    · rename_i hv
      unfold Utf8.valid at hv
      simp at hv
      omega
    · decide
  have hcb : c < 1114112 := by
    rw [hc]; split
    · rename_i hv
      unfold Utf8.valid at hv
      simp at hv
      omega
    · decide
  simp only [← hc]
  rw [if_neg (by omega), if_neg (by omega)]
  split
  · refine ⟨_, _, _, rfl, ?_⟩
    rw [toNat_of (by omega)]; omega
  · refine ⟨_, _, _, rfl, ?_⟩
    rw [toNat_of (by omega)]; omega
/-- A letter ahead. -/
theorem runs_enc_yes {n : Int} (h : isLetZ n = true) (r : List UInt8) : runs isLet (bl (Utf8.encode n) ++ r) = runs isLet r ∧ many (bl (Utf8.encode n) ++ r) = 1 + many r := by
  unfold isLetZ at h
  rw [Bool.and_eq_true, decide_eq_true_eq] at h
  obtain ⟨c, rfl⟩ : ∃ c : Nat, n = c := ⟨n.toNat, by omega⟩
  rw [Int.toNat_natCast] at h
  have hl := h.1
  by_cases h1 : c < 128
  · have hb : (UInt8.ofNat c).toNat < 128 := by rw [toNat_of (by omega)]; exact h1
    rw [enc_low h1, List.singleton_append, runs_low hb, many_low hb, toNat_of (by omega), hl]
    exact ⟨rfl, rfl⟩
  · have h2 : c < 2048 := by
      by_cases h2 : c < 2048
      · exact h2
      · rw [few_let c (by omega)] at hl; cases hl
    have e1 : (UInt8.ofNat (192 + c / 64)).toNat = 192 + c / 64 := toNat_of (by omega)
    have e2 : (UInt8.ofNat (128 + c % 64)).toNat = 128 + c % 64 := toNat_of (by omega)
    have hb : ¬ (UInt8.ofNat (192 + c / 64)).toNat < 128 := by omega
    have hcd : code (UInt8.ofNat (192 + c / 64)) (UInt8.ofNat (128 + c % 64)) = c := by unfold code; rw [e1, e2]; omega
    have hdu : duo (UInt8.ofNat (192 + c / 64)) (UInt8.ofNat (128 + c % 64)) = true := by
      unfold duo
      rw [hcd, e1, e2]
      simp only [Bool.and_eq_true, beq_iff_eq, decide_eq_true_eq]
      omega
    rw [enc_two h1 h2, List.cons_append, List.singleton_append, runs_high hb, many_high hb, hdu, hcd, hl]
    exact ⟨rfl, rfl⟩
/-- Another rune ahead. -/
theorem runs_enc_no {n : Int} (h : isLetZ n = false) (r : List UInt8) : runs isLet (bl (Utf8.encode n) ++ r) = false := by
  by_cases h0 : 0 ≤ n ∧ n < 2048
  · obtain ⟨c, rfl⟩ : ∃ c : Nat, n = c := ⟨n.toNat, by omega⟩
    have hl : isLet c = false := by
      unfold isLetZ at h
      rw [Int.toNat_natCast, decide_eq_true (by omega), Bool.and_true] at h
      exact h
    by_cases h1 : c < 128
    · have hb : (UInt8.ofNat c).toNat < 128 := by rw [toNat_of (by omega)]; exact h1
      rw [enc_low h1, List.singleton_append, runs_low hb, toNat_of (by omega), hl]; rfl
    · have h2 : c < 2048 := by omega
      have e1 : (UInt8.ofNat (192 + c / 64)).toNat = 192 + c / 64 := toNat_of (by omega)
      have e2 : (UInt8.ofNat (128 + c % 64)).toNat = 128 + c % 64 := toNat_of (by omega)
      have hb : ¬ (UInt8.ofNat (192 + c / 64)).toNat < 128 := by omega
      have hcd : code (UInt8.ofNat (192 + c / 64)) (UInt8.ofNat (128 + c % 64)) = c := by unfold code; rw [e1, e2]; omega
      rw [enc_two h1 h2, List.cons_append, List.singleton_append, runs_high hb, hcd, hl]
      simp
  · obtain ⟨b, c, q, he, hb⟩ := enc_high n h0
    have hlt := UInt8.toNat_lt b
    have hd : duo b c = false := by
      unfold duo
      have : (b.toNat / 32 == 6) = false := beq_eq_false_iff_ne.2 (by omega)
      rw [this]; rfl
    rw [he, List.cons_append, List.cons_append, runs_high (by omega), hd]; rfl
theorem encs_yes : ∀ (ns : List Int) (r : List UInt8), (∀ n ∈ ns, isLetZ n = true) → runs isLet (encs ns ++ r) = runs isLet r ∧ many (encs ns ++ r) = ns.length + many r
  | [], r, _ => by simp [encs]
  | n :: ns, r, h => by
    have h1 := runs_enc_yes (h n (by simp)) (encs ns ++ r)
    have h2 := encs_yes ns r (fun m hm => h m (by simp [hm]))
    have e : encs (n :: ns) ++ r = bl (Utf8.encode n) ++ (encs ns ++ r) := by simp [encs]
    rw [e, h1.1, h1.2, h2.1, h2.2, List.length_cons]
    exact ⟨rfl, by omega⟩
/-- A word of letters alone. -/
theorem name_letters (ns : List Int) (h : ∀ n ∈ ns, isLetZ n = true) : nameB (runesBytes ns) = decide (1 ≤ ns.length ∧ ns.length ≤ 8) := by
  have h1 := encs_yes ns [] h
  rw [List.append_nil] at h1
  unfold nameB
  rw [runes_bl, h1.1, h1.2]
  rfl
/-- With another rune. -/
theorem name_other (a b : List Int) (n : Int) (ha : ∀ n ∈ a, isLetZ n = true) (h : isLetZ n = false) : nameB (runesBytes (a ++ n :: b)) = false := by
  unfold nameB
  rw [runes_bl, encs_app, (encs_yes a _ ha).1]
  have e : encs (n :: b) = bl (Utf8.encode n) ++ encs b := by simp [encs]
  rw [e, runs_enc_no h]; rfl
def rl (x : Int) : Int := if 128 ≤ x then 945 + x % 25 else 97 + x % 26
theorem rl_let (x : Int) (h : 0 ≤ x ∧ x < 256) : isLetZ (rl x) = true := by
  unfold isLetZ rl
  rw [Bool.and_eq_true, decide_eq_true_eq]
  split
  · refine ⟨?_, by omega⟩
    rcases let_ways (945 + x % 25).toNat with ⟨h1, _⟩ | ⟨h1, h2, _⟩ | ⟨h1, h2, _⟩ | ⟨_, _, h3⟩ | ⟨h1, _⟩
    · omega
    · omega
    · omega
    · exact h3
    · omega
  · refine ⟨?_, by omega⟩
    rcases let_ways (97 + x % 26).toNat with ⟨h1, _⟩ | ⟨_, _, h3⟩ | ⟨h1, h2, _⟩ | ⟨h1, h2, _⟩ | ⟨h1, _⟩
    · omega
    · exact h3
    · omega
    · omega
    · omega
theorem isLetZ_ways (n : Int) : (n < 97 ∧ isLetZ n = false) ∨ (97 ≤ n ∧ n ≤ 122 ∧ isLetZ n = true) ∨ (122 < n ∧ n < 945 ∧ isLetZ n = false) ∨ (945 ≤ n ∧ n ≤ 969 ∧ isLetZ n = true) ∨ (969 < n ∧ isLetZ n = false) := by
  by_cases h0 : 0 ≤ n
  · obtain ⟨c, rfl⟩ : ∃ c : Nat, n = c := ⟨n.toNat, by omega⟩
    have e : isLetZ (c : Int) = isLet c := by unfold isLetZ; rw [Int.toNat_natCast, decide_eq_true h0, Bool.and_true]
    rw [e]
    rcases let_ways c with ⟨h1, h⟩ | ⟨h1, h2, h⟩ | ⟨h1, h2, h⟩ | ⟨h1, h2, h⟩ | ⟨h1, h⟩
    · exact Or.inl ⟨by omega, h⟩
    · exact Or.inr (Or.inl ⟨by omega, by omega, h⟩)
    · exact Or.inr (Or.inr (Or.inl ⟨by omega, by omega, h⟩))
    · exact Or.inr (Or.inr (Or.inr (Or.inl ⟨by omega, by omega, h⟩)))
    · exact Or.inr (Or.inr (Or.inr (Or.inr ⟨by omega, h⟩)))
  · refine Or.inl ⟨by omega, ?_⟩
    unfold isLetZ; rw [decide_eq_false h0, Bool.and_false]
end Go.Proofs.Ytpjajpgphdnglaa
