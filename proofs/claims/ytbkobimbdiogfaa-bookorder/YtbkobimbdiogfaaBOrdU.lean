/- BookOrder: what a round of the law keeps. -/
import Derived.Test.YtbkobimbdiogfaaBRefQ
import Derived.Test.YtbkobimbdiogfaaBOrdS
import Derived.Test.YtbkobimbdiogfaaBOrdT
import Derived.Test.YtbkobimbdiogfaaBGreat
import Derived.Test.YtbkobimbdiogfaaBHeavy
import Derived.Deep.Grids
namespace Go.Proofs.Ytbkobimbdiogfaa
open Go.RowKit Go.MapKept
set_option linter.unusedVariables false
set_option maxRecDepth 100000
set_option linter.unusedSimpArgs false

theorem IsKbs.below {w W : World} {a : Option Addr} {len cap : Nat} {z : Nat → Kb} (h : IsKbs w a len cap z) (b : Below w.heap.size w W) : IsKbs W a len cap z := by
  rcases h with h | h | ⟨g, off, e, h1, h2, h3⟩
  · exact Or.inl h
  · exact Or.inr (Or.inl h)
  · exact Or.inr (Or.inr ⟨g, off, e, h1, h2, fun i hi => ⟨(h3 i hi).1.kx (S := fun _ => False) (Kx.of_below b) (fun h => h), (h3 i hi).2.below b⟩⟩)
/-- A slice of bools that came in. -/
def IsBools (w : World) (a : Option Addr) (len cap : Nat) (B : Nat → Bool) : Prop :=
  (a = none ∧ len = 0 ∧ cap = 0) ∨ ∃ x, a = some x ∧ len ≤ cap ∧ cap ≤ maxLen ∧ ∀ i, i < cap → w.cell? (x.add i) = some (.bool (B i))
theorem IsBools.len {w : World} {a : Option Addr} {len cap : Nat} {B : Nat → Bool} (h : IsBools w a len cap B) : len ≤ cap ∧ cap ≤ 9223372036854775807 := by
  rcases h with ⟨_, h, h'⟩ | ⟨x, _, h1, h2, _⟩
  · omega
  · unfold maxLen at h2; omega
theorem IsBools.at {w : World} {a : Option Addr} {len cap : Nat} {B : Nat → Bool} (h : IsBools w a len cap B) (i : Nat) (hi : i < len) : ∃ x, a = some x ∧ w.cell? (x.add i) = some (.bool (B i)) := by
  rcases h with ⟨_, h, _⟩ | ⟨x, rfl, h1, h2, h3⟩
  · omega
  · exact ⟨x, rfl, h3 i (by omega)⟩
section
variable {H : Type} {enc : TypeId × Value → H} {W : World} {base : Nat} {held : Bool}
theorem bools_of {a : Option Addr} {len cap : Nat} {d : DataW H} {ps : List MemPlace} (h : DataW.Trod enc Try.prog W base (fun _ => true) held 38 (.slice a len cap) d ps) : ∃ B, IsBools W a len cap B := by
  obtain ⟨fuel, hf⟩ := h
  rcases Go.Deep.open_bools Try.underlying38 Try.underlying4 (by kernel_rfl) hf with ⟨hcs, _⟩ | ⟨x, l, c, B, hcs, _, hl, hm, _, hcell⟩
  · simp [Value.cells] at hcs
    obtain ⟨rfl, rfl, rfl⟩ := hcs
    exact ⟨fun _ => false, Or.inl ⟨rfl, rfl, rfl⟩⟩
  · simp [Value.cells] at hcs
    obtain ⟨rfl, rfl, rfl⟩ := hcs
    exact ⟨B, Or.inr ⟨x, rfl, hl, hm, hcell⟩⟩
end
/-- The answers. -/
def errN (z : Nat → Kb) (k : Nat) : List Int := (List.range k).map (fun j => mayE (runN z j) (z j))
theorem errN_succ (z : Nat → Kb) (k : Nat) : errN z (k + 1) = errN z k ++ [mayE (runN z k) (z k)] := by simp [errN, List.range_succ]
theorem errN_len (z : Nat → Kb) (k : Nat) : (errN z k).length = k := by simp [errN]
theorem errN_at (z : Nat → Kb) (n k : Nat) (h : k < n) : (errN z n)[k]? = some (mayE (runN z k) (z k)) := by simp [errN, h]
/-- The first book, the document's book, a row of answers, apart from one another and from what is kept. -/
def LS (K : Nat → Prop) (base : Nat) (X : World) (va : Value) (p q : Ps) (rb : Nat) (R : Rf) (vf : Value) (L : List Int) : Prop :=
  ∃ Oa P ac cc, St2 Oa X va p q ∧ RBx P X rb firstO ac cc R ∧ X.ownsRow base 49 1 vf L.length (intV L) ∧ (∀ i, Oa i → base ≤ i ∧ ¬ K i) ∧ (∀ i, P i → base ≤ i ∧ ¬ K i) ∧ (∀ g, vf.ownBlock = some g → ¬ K g) ∧ (∀ i, Oa i → ¬ P i) ∧ (∀ g, vf.ownBlock = some g → ¬ Oa g ∧ ¬ P g)
section
variable {K : Nat → Prop} {base : Nat} {X X' : World} {va : Value} {p q : Ps} {rb : Nat} {R : Rf} {vf : Value} {L : List Int}
theorem LS.below (h : LS K base X va p q rb R vf L) (b : Below X.heap.size X X') : LS K base X' va p q rb R vf L := by
  obtain ⟨Oa, P, ac, cc, h1, h2, h3, h4⟩ := h
  exact ⟨Oa, P, ac, cc, h1.below b, h2.below b, own_below h3 b, h4⟩
theorem LS.sane (h : LS K base X va p q rb R vf L) : Sane p ∧ Sane q := by
  obtain ⟨Oa, P, ac, cc, h1, _⟩ := h
  exact h1.sane
theorem own_kx2 {T : Nat → Prop} {base : Nat} {e : TypeId} {v : Value} {n : Nat} {xs : List Value} (h : X.ownsRow base e 1 v n xs) (k : Kx T X X') (hT : ∀ g, v.ownBlock = some g → ¬ T g) : X'.ownsRow base e 1 v n xs := by
  refine ⟨h.1, ?_⟩
  rcases h.2 with h2 | ⟨g, cap, cur, rfl, hb, hh, r⟩
  · exact Or.inl h2
  · exact Or.inr ⟨g, cap, cur, rfl, hb, k.blk hh (hT g rfl), r⟩
theorem ls_new {Oa P : Nat → Prop} {Y : Nat} (h4 : ∀ i, Oa i → base ≤ i ∧ ¬ K i) (hb : base ≤ Y) (hK : ∀ i, K i → i < Y) (n : Nat) : ∀ i, (Oa i ∨ (Y ≤ i ∧ i < n)) → base ≤ i ∧ ¬ K i := by
  intro i hi
  rcases hi with hi | hi
  · exact h4 i hi
  · exact ⟨by omega, fun hk => by have := hK i hk; omega⟩
theorem ls_step (hb : base ≤ X.heap.size) (hK : ∀ i, K i → i < X.heap.size) {Oa P : Nat → Prop} {ac : Option Addr} {cc : Nat} {p' q' : Ps}
    (h1 : St2 Oa X va p q) (h2 : RBx P X rb firstO ac cc R) (h3 : X.ownsRow base 49 1 vf L.length (intV L)) (h4 : ∀ i, Oa i → base ≤ i ∧ ¬ K i) (h5 : ∀ i, P i → base ≤ i ∧ ¬ K i) (h6 : ∀ g, vf.ownBlock = some g → ¬ K g) (h7 : ∀ i, Oa i → ¬ P i) (h8 : ∀ g, vf.ownBlock = some g → ¬ Oa g ∧ ¬ P g)
    (k : Kx Oa X X') (hs : St2 (fun i => Oa i ∨ (X.heap.size ≤ i ∧ i < X'.heap.size)) X' va p' q') : LS K base X' va p' q' rb R vf L := by
  refine ⟨_, P, ac, cc, hs, h2.kx k (fun i hp ho => h7 i ho hp), own_kx2 h3 k (fun g hg => (h8 g hg).1), ls_new (P := P) h4 hb hK _, h5, h6, ?_, ?_⟩
  · intro i hi hp
    rcases hi with hi | hi
    · exact h7 i hi hp
    · have := h2.plt i hp
      omega
  · intro g hg
    refine ⟨fun hi => ?_, (h8 g hg).2⟩
    rcases hi with hi | hi
    · exact (h8 g hg).1 hi
    · have := (h3.lt g hg).2
      omega
theorem ls_first (h : LS K base X va p q rb R vf L) (hb : base ≤ X.heap.size) (hK : ∀ i, K i → i < X.heap.size) (z : Kb) (hz : KbFits X z) (hql : z.Q.length ≤ 1000000000) :
    Calls Try.prog 14 #[va, .string ⟨#[102, 105, 114, 115, 116]⟩, .agg (kbC z)] X fun e X' => e = .returned (.int .i64 (mayE p z)) ∧ Kx (fun i => base ≤ i ∧ ¬ K i) X X' ∧ LS K base X' va (nx p z) q rb R vf L := by
  obtain ⟨Oa, P, ac, cc, h1, h2, h3, h4, h5, h6, h7, h8⟩ := h
  refine (st2_first h1 z hz hql).mono ?_
  rintro e X' ⟨rfl, k, hs⟩
  exact ⟨rfl, k.mono h4, ls_step hb hK h1 h2 h3 h4 h5 h6 h7 h8 k hs⟩
theorem ls_second (h : LS K base X va p q rb R vf L) (hb : base ≤ X.heap.size) (hK : ∀ i, K i → i < X.heap.size) (z : Kb) (hz : KbFits X z) (hql : z.Q.length ≤ 1000000000) :
    Calls Try.prog 14 #[va, .string ⟨#[115, 101, 99, 111, 110, 100]⟩, .agg (kbC z)] X fun e X' => e = .returned (.int .i64 (mayE q z)) ∧ Kx (fun i => base ≤ i ∧ ¬ K i) X X' ∧ LS K base X' va p (nx q z) rb R vf L := by
  obtain ⟨Oa, P, ac, cc, h1, h2, h3, h4, h5, h6, h7, h8⟩ := h
  refine (st2_second h1 z hz hql).mono ?_
  rintro e X' ⟨rfl, k, hs⟩
  exact ⟨rfl, k.mono h4, ls_step hb hK h1 h2 h3 h4 h5 h6 h7 h8 k hs⟩
/-- One more answer. -/
theorem ls_push (h : LS K base X va p q rb R vf L) (hb : base ≤ X.heap.size) (hK : ∀ i, K i → i < X.heap.size) {vf' : Value} {e : Int} (ho : X'.ownsRow base 49 1 vf' (L.length + 1) (intV L ++ [.int .i64 e])) (hg : X.grownBy X' vf.ownBlock) (ha : vf'.ownBlock = vf.ownBlock ∨ vf'.ownBlock = some X.heap.size) :
    Kx (fun i => base ≤ i ∧ ¬ K i) X X' ∧ LS K base X' va p q rb R vf' (L ++ [e]) := by
  obtain ⟨Oa, P, ac, cc, h1, h2, h3, h4, h5, h6, h7, h8⟩ := h
  have k : Kx (fun i => vf.ownBlock = some i) X X' := ⟨hg.os, hg.tape, hg.output, hg.size, fun i hi hn => hg.block i hi (fun e => hn e.symm)⟩
  refine ⟨k.mono (fun i hi => ⟨(h3.lt i hi).1, h6 i hi⟩), Oa, P, ac, cc, h1.kx k (fun i ho hv => (h8 i hv).1 ho), h2.kx k (fun i hp hv => (h8 i hv).2 hp), ?_, h4, h5, ?_, h7, ?_⟩
  · rw [List.length_append, intV_app]
    exact ho
  · intro g hg' hk
    rcases ha with ha | ha
    · exact h6 g (by rw [← ha]; exact hg') hk
    · rw [ha] at hg'
      simp only [Option.some.injEq] at hg'
      have := hK g hk
      omega
  · intro g hg'
    rcases ha with ha | ha
    · exact h8 g (by rw [← ha]; exact hg')
    · rw [ha] at hg'
      simp only [Option.some.injEq] at hg'
      subst hg'
      exact ⟨fun ho => by have := h1.lt _ ho; omega, fun hp => by have := h2.plt _ hp; omega⟩
theorem ls_ref (h : LS K base X va p q rb R vf L) (hb : base ≤ X.heap.size) (hK : ∀ i, K i → i < X.heap.size) (z : Kb) (hz : KbFits X z) (hql : z.Q.length ≤ 1000) :
    Calls Try.prog 15 #[.pointer (some ⟨rb, 0, none⟩), .string ⟨#[102, 105, 114, 115, 116]⟩, .agg (kbC z)] X fun e X' => e = .returned (.int .i64 (mayR R z)) ∧ Kx (fun i => base ≤ i ∧ ¬ K i) X X' ∧ ∃ R', LS K base X' va p q rb R' vf L ∧ (mayR R z ≠ 0 → R' = R) ∧ (mayR R z = 0 → ∃ qv', R' = addR R { z with swho := firstO, bwho := firstO, qv := qv' }) := by
  obtain ⟨Oa, P, ac, cc, h1, h2, h3, h4, h5, h6, h7, h8⟩ := h
  refine (bkAdd_any h2 z hz hql).mono ?_
  rintro e X' ⟨rfl, k, a', c', R', hr, x1, x2⟩
  refine ⟨rfl, k.mono (fun i hi => by subst hi; exact h5 _ h2.inb), R', ⟨Oa, _, a', c', h1.kx k (fun i ho e => by subst e; exact h7 _ ho h2.inb), hr, own_kx2 h3 k (fun g hg e => by subst e; exact (h8 _ hg).2 h2.inb), h4, ls_new (P := P) h5 hb hK _, h6, ?_, ?_⟩, x1, x2⟩
  · intro i ho hp
    rcases hp with hp | hp
    · exact h7 i ho hp
    · have := h1.lt i ho
      omega
  · intro g hg
    refine ⟨(h8 g hg).1, fun hp => ?_⟩
    rcases hp with hp | hp
    · exact (h8 g hg).2 hp
    · have := (h3.lt g hg).2
      omega
end
/-- The document's answers go on being the program's. -/
theorem ref_next {R R' : Rf} {p : Ps} {z : Kb} {who : ByteArray} (h : Ref R p) (hs : Sane p) (x1 : mayR R z ≠ 0 → R' = R) (x2 : mayR R z = 0 → ∃ qv', R' = addR R { z with swho := who, bwho := who, qv := qv' }) : Ref R' (nx p z) := by
  have he := mayR_eq h z
  unfold nx
  by_cases hE : mayE p z = 0
  · rw [if_pos hE]
    obtain ⟨qv, rfl⟩ := x2 (by rw [he]; exact hE)
    exact ref_add h hs { z with swho := who, bwho := who, qv := qv } hE
  · rw [if_neg hE, x1 (by rw [he]; exact hE)]
    exact h
end Go.Proofs.Ytbkobimbdiogfaa
