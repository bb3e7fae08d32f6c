/- store in plain terms: the bytes of several records, and the first error among them. -/
import Derived.Test.YtfpifjejooineaaRcEnc
namespace Go.Proofs.Ytfpifjejooineaa.Rc
set_option linter.unusedVariables false
set_option linter.unusedSimpArgs false

/-- The error of the first record that has one. -/
def allE : List Rec → Int
  | [] => 0
  | r :: L => if encE r = 0 then allE L else encE r
/-- The bytes of all of them, if none has an error. -/
def allT (L : List Rec) : ByteArray := if allE L = 0 then Bs.str (encs L) else ⟨#[]⟩
theorem allE_all : ∀ {L : List Rec}, (∀ r ∈ L, encE r = 0) → allE L = 0
  | [], _ => rfl
  | r :: L, h => by rw [allE, if_pos (h r (by simp))]; exact allE_all fun q hq => h q (by simp [hq])
theorem allE_zero : ∀ {L : List Rec}, allE L = 0 → ∀ r ∈ L, encE r = 0
  | [], _, r, hr => by simp at hr
  | q :: L, h, r, hr => by
    rw [allE] at h
    split at h
    · rcases List.mem_cons.1 hr with rfl | hr
      · assumption
      · exact allE_zero h r hr
    · contradiction
theorem allE_at : ∀ (L : List Rec) (k : Nat) (hk : k < L.length), (∀ i (h : i < k), encE (L[i]'(by omega)) = 0) → encE L[k] ≠ 0 → allE L = encE L[k]
  | [], k, hk, _, _ => by simp at hk
  | r :: L, 0, _, _, h => by simp only [List.getElem_cons_zero] at h ⊢; rw [allE, if_neg h]
  | r :: L, k + 1, hk, h, h' => by
    have h0 := h 0 (by omega)
    simp only [List.getElem_cons_zero] at h0
    rw [allE, if_pos h0]
    simp only [List.getElem_cons_succ] at h' ⊢
    exact allE_at L k (by simpa using hk) (fun i hi => by have := h (i + 1) (by omega); simpa using this) h'
theorem take_good {L : List Rec} {k : Nat} (hk : k ≤ L.length) (h : ∀ i (h : i < k), encE (L[i]'(by omega)) = 0) : ∀ r ∈ L.take k, encE r = 0 := by
  intro r hr
  obtain ⟨i, hi, rfl⟩ := List.mem_iff_getElem.1 hr
  rw [List.length_take] at hi
  rw [List.getElem_take]
  exact h i (by omega)
theorem enc_max {r : Rec} (g : Good r) : (enc r).length ≤ 17200 := by
  have h1 := g.who
  have h2 := g.text
  have h3 := gs_len r.nums 64 g.fit g.nums
  simp only [enc, tx, cnt_len, List.length_cons, List.length_append, of_len]
  omega
theorem encs_max : ∀ {L : List Rec}, (∀ r ∈ L, Good r) → (encs L).length ≤ 17200 * L.length
  | [], _ => by simp [encs]
  | r :: L, h => by
    have h1 := enc_max (h r (by simp))
    have h2 := encs_max fun q (hq : q ∈ L) => h q (by simp [hq])
    simp only [encs, List.length_append, List.length_cons]; omega
theorem encs_take (L : List Rec) (i : Nat) (hi : i < L.length) : encs (L.take (i + 1)) = encs (L.take i) ++ enc L[i] := by
  rw [show L.take (i + 1) = L.take i ++ [L[i]] by rw [List.take_add_one]; simp [List.getElem?_eq_getElem hi], encs_snoc]
theorem Dec.few {s : Bs} {L : List Rec} {n : Nat} (h : Dec s L n) : L.length ≤ n := by
  have : ∀ L : List Rec, L.length ≤ (encs L).length := by
    intro L
    induction L with
    | nil => simp
    | cons r L ih => have := enc_len r; simp only [encs, List.length_append, List.length_cons]; omega
  rw [h.len]; exact this L
end Go.Proofs.Ytfpifjejooineaa.Rc
