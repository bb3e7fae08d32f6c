/- BookOrder: what two participants' Adds come to, and the books in which they lie. -/
import Derived.Test.YtbkobimbdiogfaaBRefM
import Derived.Test.YtbkobimbdiogfaaBTell
import Derived.Test.YtbkobimbdiogfaaBCancel
namespace Go.Proofs.Ytbkobimbdiogfaa
open Go.RowKit Go.MapKept
set_option linter.unusedVariables false
set_option maxRecDepth 100000
set_option linter.unusedSimpArgs false

def firstO : ByteArray := ⟨#[102, 105, 114, 115, 116]⟩
def secondO : ByteArray := ⟨#[115, 101, 99, 111, 110, 100]⟩
theorem firstO_size : firstO.size ≤ 1099511627776 := by decide
theorem secondO_size : secondO.size ≤ 1099511627776 := by decide
theorem fs_ne : firstO ≠ secondO := by decide
theorem sf_ne : secondO ≠ firstO := by decide
/-- One behind one more ask. -/
def nx (p : Ps) (z : Kb) : Ps := if mayE p z = 0 then addP p z else p
def runN (z : Nat → Kb) : Nat → Ps
  | 0 => ps0
  | k + 1 => nx (runN z k) (z k)
theorem addP_asks (p : Ps) (z : Kb) : (addP p z).asks = p.asks + 1 := by
  unfold addP
  split
  · rfl
  · split <;> rfl
/-- A book of two participants. -/
def St2 (O : Nat → Prop) (w : World) (v : Value) (p q : Ps) : Prop :=
  ∃ N S, Bk O w v N S ∧ S firstO = p ∧ S secondO = q ∧ (∀ x, x ≠ firstO → x ≠ secondO → S x = ps0) ∧ ∀ x ∈ N, 0 < (S x).asks
theorem St2.kx {O T : Nat → Prop} {w w' : World} {v : Value} {p q : Ps} (h : St2 O w v p q) (k : Kx T w w') (hT : ∀ i, O i → ¬ T i) : St2 O w' v p q := by
  obtain ⟨N, S, h1, h2⟩ := h
  exact ⟨N, S, h1.kx k hT, h2⟩
theorem St2.below {O : Nat → Prop} {w w' : World} {v : Value} {p q : Ps} (h : St2 O w v p q) (k : Below w.heap.size w w') : St2 O w' v p q := h.kx (T := fun _ => False) (Kx.of_below k) (fun _ _ h => h)
theorem Bk.lt {O : Nat → Prop} {w : World} {v : Value} {N : List ByteArray} {S : ByteArray → Ps} (h : Bk O w v N S) : ∀ i, O i → i < w.heap.size := by
  obtain ⟨C, bb, lb, ab, el, ea, cl, ca, hv, hb⟩ := h
  exact hb.lt
theorem Bk.rest {O : Nat → Prop} {w : World} {v : Value} {N : List ByteArray} {S : ByteArray → Ps} (h : Bk O w v N S) : ∀ x, x ∉ N → S x = ps0 := by
  obtain ⟨C, bb, lb, ab, el, ea, cl, ca, hv, hb⟩ := h
  exact hb.rest
theorem Bk.nodup {O : Nat → Prop} {w : World} {v : Value} {N : List ByteArray} {S : ByteArray → Ps} (h : Bk O w v N S) : N.Nodup := by
  obtain ⟨C, bb, lb, ab, el, ea, cl, ca, hv, hb⟩ := h
  exact hb.nodup
theorem St2.lt {O : Nat → Prop} {w : World} {v : Value} {p q : Ps} (h : St2 O w v p q) : ∀ i, O i → i < w.heap.size := by
  obtain ⟨N, S, h1, h2⟩ := h
  exact h1.lt
theorem St2.sane {O : Nat → Prop} {w : World} {v : Value} {p q : Ps} (h : St2 O w v p q) : Sane p ∧ Sane q := by
  obtain ⟨N, S, h1, h2, h3, _⟩ := h
  exact ⟨h2 ▸ h1.sane firstO, h3 ▸ h1.sane secondO⟩
theorem mem_new {N : List ByteArray} {S : ByteArray → Ps} (hN : ∀ x ∈ N, 0 < (S x).asks) (who : ByteArray) (z : Kb) (hs : Sane (S who)) (hE : mayE (S who) z = 0) : ∀ x ∈ addN N who, 0 < (upd S who (addP (S who) z) x).asks := by
  intro x hx
  by_cases e : x = who
  · subst e
    rw [upd_same, addP_asks]
    have := hs.asks
    omega
  · rw [upd_other S _ e]
    rcases mem_addN.1 hx with h | h
    · exact hN x h
    · exact absurd h e
theorem st2_first {O : Nat → Prop} {w : World} {v : Value} {p q : Ps} (h : St2 O w v p q) (z : Kb) (hz : KbFits w z) (hql : z.Q.length ≤ 1000000000) :
    Calls Try.prog 14 #[v, .string ⟨#[102, 105, 114, 115, 116]⟩, .agg (kbC z)] w fun e w' => e = .returned (.int .i64 (mayE p z)) ∧ Kx O w w' ∧ St2 (fun i => O i ∨ (w.heap.size ≤ i ∧ i < w'.heap.size)) w' v (nx p z) q := by
  obtain ⟨N, S, h1, h2, h3, h4, h5⟩ := h
  have hs := h1.sane firstO
  refine (add_any h1 firstO firstO_size z hz hql).mono ?_
  rintro e w' ⟨rfl, k, hb⟩
  rw [h2] at hb ⊢
  refine ⟨rfl, k, _, _, hb, ?_⟩
  unfold nx
  by_cases hE : mayE p z = 0
  · rw [if_pos hE, if_pos hE, if_pos hE]
    refine ⟨upd_same _ _ _, by rw [upd_other _ _ sf_ne]; exact h3, fun x hx hy => by rw [upd_other _ _ hx]; exact h4 x hx hy, ?_⟩
    have := mem_new h5 firstO z hs (by rw [h2]; exact hE)
    rw [h2] at this
    exact this
  · rw [if_neg hE, if_neg hE, if_neg hE]
    exact ⟨h2, h3, h4, h5⟩
theorem st2_second {O : Nat → Prop} {w : World} {v : Value} {p q : Ps} (h : St2 O w v p q) (z : Kb) (hz : KbFits w z) (hql : z.Q.length ≤ 1000000000) :
    Calls Try.prog 14 #[v, .string ⟨#[115, 101, 99, 111, 110, 100]⟩, .agg (kbC z)] w fun e w' => e = .returned (.int .i64 (mayE q z)) ∧ Kx O w w' ∧ St2 (fun i => O i ∨ (w.heap.size ≤ i ∧ i < w'.heap.size)) w' v p (nx q z) := by
  obtain ⟨N, S, h1, h2, h3, h4, h5⟩ := h
  have hs := h1.sane secondO
  refine (add_any h1 secondO secondO_size z hz hql).mono ?_
  rintro e w' ⟨rfl, k, hb⟩
  rw [h3] at hb ⊢
  refine ⟨rfl, k, _, _, hb, ?_⟩
  unfold nx
  by_cases hE : mayE q z = 0
  · rw [if_pos hE, if_pos hE, if_pos hE]
    refine ⟨by rw [upd_other _ _ fs_ne]; exact h2, upd_same _ _ _, fun x hx hy => by rw [upd_other _ _ hy]; exact h4 x hx hy, ?_⟩
    have := mem_new h5 secondO z hs (by rw [h3]; exact hE)
    rw [h3] at this
    exact this
  · rw [if_neg hE, if_neg hE, if_neg hE]
    exact ⟨h2, h3, h4, h5⟩
theorem names_perm {N M : List ByteArray} (h : N.Perm M) : namesS N = namesS M := by
  unfold namesS bytesS
  rw [show (N.map bytesOf').mergeSort (fun x y => decide (x ≤ y)) = (M.map bytesOf').mergeSort (fun x y => decide (x ≤ y)) from mergeSort_of_perm (h.map _)]
/-- Two books of the same states. -/
structure Pair2 (N M : List ByteArray) (S T : ByteArray → Ps) : Prop where
  eq : S = T
  perm : N.Perm M
  len : N.length ≤ 2
  len2 : M.length ≤ 2
theorem two_len {N : List ByteArray} (hn : N.Nodup) (h : ∀ x ∈ N, x = firstO ∨ x = secondO) : N.length ≤ 2 :=
  len_le_of N [firstO, secondO] hn (fun x hx => by rcases h x hx with e | e <;> simp [e])
theorem pair2 {O U : Nat → Prop} {w w' : World} {v u : Value} {N M : List ByteArray} {S T : ByteArray → Ps} {p q : Ps}
    (h1 : Bk O w v N S) (e1 : S firstO = p) (e2 : S secondO = q) (e3 : ∀ x, x ≠ firstO → x ≠ secondO → S x = ps0) (e4 : ∀ x ∈ N, 0 < (S x).asks)
    (k1 : Bk U w' u M T) (f1 : T firstO = p) (f2 : T secondO = q) (f3 : ∀ x, x ≠ firstO → x ≠ secondO → T x = ps0) (f4 : ∀ x ∈ M, 0 < (T x).asks) : Pair2 N M S T := by
  have hST : S = T := by
    funext x
    by_cases hx : x = firstO
    · rw [hx, e1, f1]
    · by_cases hy : x = secondO
      · rw [hy, e2, f2]
      · rw [e3 x hx hy, f3 x hx hy]
  subst hST
  have hN : ∀ {N : List ByteArray}, (∀ x ∈ N, 0 < (S x).asks) → ∀ x ∈ N, x = firstO ∨ x = secondO := fun hh x hx => by
    apply Classical.byContradiction
    intro hc
    have := hh x hx
    rw [e3 x (fun e => hc (Or.inl e)) (fun e => hc (Or.inr e))] at this
    simp [ps0] at this
  have hm : ∀ x, x ∈ N ↔ x ∈ M := fun x => by
    constructor
    · intro hx
      apply Classical.byContradiction
      intro hc
      have := e4 x hx
      rw [k1.rest x hc] at this
      simp [ps0] at this
    · intro hx
      apply Classical.byContradiction
      intro hc
      have := f4 x hx
      rw [h1.rest x hc] at this
      simp [ps0] at this
  exact ⟨rfl, (List.perm_ext_iff_of_nodup h1.nodup k1.nodup).2 hm, two_len h1.nodup (hN e4), two_len k1.nodup (hN f4)⟩
theorem Pair2.all {N M : List ByteArray} {S T : ByteArray → Ps} (h : Pair2 N M S T) (kd : Int) : allO kd N S = allO kd M T := by
  unfold allO
  rw [h.eq, names_perm h.perm]
end Go.Proofs.Ytbkobimbdiogfaa
