/- A wide value stored whole; a result that lies in such a row; what a call leaves as it was. -/
import Derived.Test.YtbkobimbdiogfaaKBase
namespace Go.Proofs.Ytbkobimbdiogfaa
open Go.RowKit
set_option linter.unusedVariables false
set_option maxRecDepth 100000
set_option linter.unusedSimpArgs false

def storeWide (a : Addr) (l : List Value) : Sem Unit := storeCells a l 0
@[go_sem high] theorem store_cells18 (a : Addr) (v0 v1 v2 v3 v4 v5 v6 v7 v8 v9 v10 v11 v12 v13 v14 v15 v16 v17 : Value) : storeCells a [v0, v1, v2, v3, v4, v5, v6, v7, v8, v9, v10, v11, v12, v13, v14, v15, v16, v17] 0 = storeWide a [v0, v1, v2, v3, v4, v5, v6, v7, v8, v9, v10, v11, v12, v13, v14, v15, v16, v17] := rfl
@[go_sem] theorem one_int (k : IntKind) (n : Int) : (Value.int k n).oneCell' = true := rfl
@[go_sem] theorem one_string (s : ByteArray) : (Value.string s).oneCell' = true := rfl
@[go_sem] theorem one_bool (b : Bool) : (Value.bool b).oneCell' = true := rfl
@[go_sem] theorem one_slice (a : Option Addr) (n c : Nat) : (Value.slice a n c).oneCell' = true := rfl
/-- Block b is a row of n cells that may be written. -/
def rowOf (w : World) (b n : Nat) : Bool := match w.heap[b]? with | some (.cells c _ (0, 0)) => c.size == n | _ => false
theorem rowOf_is {w : World} {b n : Nat} {c : Array Value} {t : TypeId} (h : w.heap[b]? = some (.cells c t (0, 0))) (hn : c.size = n) : rowOf w b n = true := by
  unfold rowOf; rw [h]; simp [hn]
theorem rowOf_some {w : World} {b n : Nat} (h : rowOf w b n = true) : ∃ c t, w.heap[b]? = some (.cells c t (0, 0)) ∧ c.size = n := by
  unfold rowOf at h
  split at h
  · rename_i c t hc
    exact ⟨c, t, hc, by simpa using h⟩
  · cases h
theorem rowOf_below {w w' : World} {b n : Nat} (h : rowOf w b n = true) (k : Below w.heap.size w w') : rowOf w' b n = true := by
  obtain ⟨c, t, hc, hn⟩ := rowOf_some h
  exact rowOf_is (blk_below hc k) hn
def wideSlow (P : Program) (a : Addr) (l : List Value) (w : World) := (storeWide a l).run P w
theorem setCells_row (b : Nat) (t : TypeId) (fz : Nat × Nat) : ∀ (vs pre old : List Value) (w : World), vs.length = old.length → w.heap[b]? = some (.cells (pre ++ old).toArray t fz) → w.setCells b pre.length vs = w.setRow b (pre ++ vs).toArray
  | [], pre, old, w, hl, h => by
    obtain rfl : old = [] := List.eq_nil_of_length_eq_zero hl.symm
    exact (setRow_self w b _ t fz h).symm
  | v :: r, pre, old, w, hl, h => by
    match old, hl, h with
    | x :: os, hl, h =>
      have e1 : w.setCell ⟨b, pre.length, none⟩ v = w.setRow b ((pre ++ [v]) ++ os).toArray := by
        rw [setCell_eq_setRow w b pre.length _ t fz v h]
        congr 1
        apply Array.ext'
        simp
      have h1 := setRow_heap w b _ ((pre ++ [v]) ++ os).toArray t fz h
      have ih := setCells_row b t fz r (pre ++ [v]) os (w.setRow b ((pre ++ [v]) ++ os).toArray) (by simpa using hl) h1
      rw [World.setCells, e1]
      rw [show (pre ++ [v]).length = pre.length + 1 by simp] at ih
      rw [ih, setRow_setRow]
      simp
@[go_sem] theorem run_storeWide (P : Program) (b : Nat) (l : List Value) (w : World) : (storeWide ⟨b, 0, none⟩ l).run P w = if (rowOf w b l.length && l.all (·.oneCell')) = true then .ok () (w.setRow b l.toArray) else wideSlow P ⟨b, 0, none⟩ l w := by
  split
  · rename_i h
    rw [Bool.and_eq_true] at h
    obtain ⟨c, t, hc, hn⟩ := rowOf_some h.1
    obtain ⟨cl, rfl⟩ : ∃ cl : List Value, c = cl.toArray := ⟨c.toList, by simp⟩
    have hn' : l.length = cl.length := by simpa using hn.symm
    have hs := run_storeCells_cells (P := P) b 0 l 0 w (fun j hj => by
        rw [show (⟨b, 0 + 0 + j, none⟩ : Addr) = ⟨b, j, none⟩ by simp, cell_at hc j cl[j] (by simp [show j < cl.length by omega])]; rfl) (fun j hj => free_at hc _) (fun v hv => List.all_eq_true.1 h.2 v hv)
    have e := setCells_row b t (0, 0) l [] cl w hn' hc
    unfold storeWide
    rw [hs]
    simpa using e
  · rfl
theorem results_cell_tmp {P : Program} {fn : Func} {p q : Tmp} {ty : TypeId} (h : fn.results = #[.cell p ty, .tmp q]) (tmps : Array Value) (w : World) (g : Nat) (t : TypeId) (cs : Array Value) (fr : Nat × Nat) (d : TypeDesc)
    (hp : tmps.getD p undef = .pointer (some ⟨g, 0, none⟩)) (hg : w.heap[g]? = some (.cells cs t fr))
    (hu : P.underlying ty = some d) (hd : (match d with | .struct _ | .array _ _ => true | _ => false) = true) (hi : (P.info? ty).map (·.size) = some cs.size) :
    (results fn tmps).run P w = .ok (.tuple #[.agg cs, tmps.getD q undef]) w := by
  have hp' : tmps[p]?.getD undef = .pointer (some ⟨g, 0, none⟩) := by simpa using hp
  simp [results, h, hp', asAddr, run_loadVar_row w g t ty cs fr d hg hu hd hi]
/-- What was there is as it was, but for the blocks of S. -/
structure Kx (S : Nat → Prop) (w w' : World) : Prop where
  os : w'.os = w.os
  tape : w'.tape = w.tape
  output : w'.output = w.output
  size : w.heap.size ≤ w'.heap.size
  block : ∀ k, k < w.heap.size → ¬ S k → w'.heap[k]? = w.heap[k]?
theorem Kx.refl (S : Nat → Prop) (w : World) : Kx S w w := ⟨rfl, rfl, rfl, Nat.le_refl _, fun _ _ _ => rfl⟩
theorem Kx.trans {S : Nat → Prop} {a b c : World} (h : Kx S a b) (k : Kx S b c) : Kx S a c :=
  ⟨k.os.trans h.os, k.tape.trans h.tape, k.output.trans h.output, Nat.le_trans h.size k.size, fun i hi hs => (k.block i (Nat.lt_of_lt_of_le hi h.size) hs).trans (h.block i hi hs)⟩
theorem Kx.of_below {S : Nat → Prop} {w w' : World} (h : Below w.heap.size w w') : Kx S w w' := ⟨h.os, h.tape, h.output, h.size, fun k hk _ => h.block k hk⟩
theorem Kx.mono {S T : Nat → Prop} {w w' : World} (h : Kx S w w') (hs : ∀ b, S b → T b) : Kx T w w' := ⟨h.os, h.tape, h.output, h.size, fun k hk ht => h.block k hk (fun s => ht (hs k s))⟩
theorem Kx.below {S : Nat → Prop} {B : Nat} {w w' : World} (h : Kx S w w') (hB : B ≤ w.heap.size) (hs : ∀ b, S b → B ≤ b) : Below B w w' :=
  ⟨h.os, h.tape, h.output, h.size, fun k hk => h.block k (by omega) (fun s => by have := hs k s; omega)⟩
theorem Kx.set {S : Nat → Prop} {w w' : World} (h : Kx S w w') {g k : Nat} (hg : S g) (v : Value) : Kx S w (w'.setCell ⟨g, k, none⟩ v) :=
  ⟨h.os, h.tape, h.output, by simpa using h.size, fun i hi hs => by
    have hne : ¬ g = i := fun e => hs (e ▸ hg)
    rw [← h.block i hi hs]
    show (w'.heap.modify g _)[i]? = _
    rw [Array.getElem?_modify, if_neg hne]⟩
theorem Kx.row {S : Nat → Prop} {w w' : World} (h : Kx S w w') {g : Nat} (hg : S g) (cs : Array Value) : Kx S w (w'.setRow g cs) :=
  ⟨h.os, h.tape, h.output, by simpa using h.size, fun i hi hs => by
    have hne : i ≠ g := fun e => hs (e ▸ hg)
    rw [setRow_other _ _ _ _ hne]; exact h.block i hi hs⟩
theorem Kx.blk {S : Nat → Prop} {w w' : World} {b : Nat} {o : Obj} (k : Kx S w w') (h : w.heap[b]? = some o) (hs : ¬ S b) : w'.heap[b]? = some o := (k.block b (lt_of_block h) hs).trans h
theorem Kx.cell {S : Nat → Prop} {w w' : World} {b i : Nat} {v : Value} (k : Kx S w w') (h : w.cell? ⟨b, i, none⟩ = some v) (hs : ¬ S b) : w'.cell? ⟨b, i, none⟩ = some v := by
  have hb := k.block b (World.block_lt_of_cell? w _ h) hs
  unfold World.cell? at h ⊢
  simp only at h ⊢
  rw [hb]; exact h
theorem Row1.kx {S : Nat → Prop} {w w' : World} {v : Value} {L : List Value} (h : Row1 w v L) (k : Kx S w w') (hs : ∀ b off n c, v = .slice (some ⟨b, off, none⟩) n c → ¬ S b) : Row1 w' v L := by
  obtain ⟨a, c, h1, h2, h3, h4⟩ := h
  refine ⟨a, c, h1, h2, h3, ?_⟩
  rcases h4 with h4 | ⟨b, off, h4, h5⟩
  · exact Or.inl h4
  · exact Or.inr ⟨b, off, h4, fun i hi => k.cell (h5 i hi) (hs b off _ c (by rw [h1, h4]))⟩
/-- Without its first element. -/
theorem Row1.tail {w : World} {x : Value} {L : List Value} {b off c : Nat} (h : Row1 w (.slice (some ⟨b, off, none⟩) (x :: L).length c) (x :: L)) (a : Option Addr) (ha : L = [] ∨ a = some ⟨b, off + 1, none⟩) : Row1 w (.slice a L.length (c - 1)) L := by
  obtain ⟨a', c', h1, h2, h3, h4⟩ := h
  simp only [Value.slice.injEq] at h1
  obtain ⟨e1, _, e2⟩ := h1
  subst e1 e2
  simp only [List.length_cons] at h2
  refine ⟨a, c - 1, rfl, by omega, by omega, ?_⟩
  rcases ha with rfl | rfl
  · exact Or.inl rfl
  · rcases h4 with h4 | ⟨b', off', h4, h5⟩
    · cases h4
    · simp only [Option.some.injEq, Addr.mk.injEq, and_true] at h4
      obtain ⟨rfl, rfl⟩ := h4
      refine Or.inr ⟨b, off + 1, rfl, fun i hi => ?_⟩
      have := h5 (i + 1) (by simp; omega)
      rw [show off + 1 + i = off + (i + 1) by omega, this]
      simp
end Go.Proofs.Ytbkobimbdiogfaa
