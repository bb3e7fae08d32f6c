/- market: a problem under way in the document's box. -/
import Derived.Test.YtlkcfgjhgmpbcaaK15B
import Derived.Test.YtlkcfgjhgmpbcaaK15O
namespace Go.Proofs.Ytlkcfgjhgmpbcaa
open Go.RowKit
set_option linter.unusedVariables false
set_option maxRecDepth 100000
set_option linter.unusedSimpArgs false

theorem set_size (w : World) (p : Addr) (u : Value) : (w.setCell p u).heap.size = w.heap.size := by simp [World.setCell]
section
variable {tP tv : TypeId} {W5 w w' : World} {pb vb : Nat} {vs : List Value} {P : Prb} {rv ev bv cv : Value} {bx vc : Array Value} {L : List Value}
theorem P3.st (h : P3 tP tv W5 w pb vb vs P rv ev bv cv L.toArray vc) (h1 : tP ≠ 3) (h2 : tP ≠ 26) (hne : vb ≠ pb) (i : Nat) (u : Value) :
    P3 tP tv W5 (w.setCell ⟨pb, i, none⟩ u) pb vb vs P rv ev bv cv (L.set i u).toArray vc :=
  ⟨h.pv.set h.box h1 h2 u, set_at h.box, by rw [Below.heap_setCell _ _ _ _ hne]; exact h.vbx, h.bel.setCell (p := ⟨pb, i, none⟩) (Nat.le_refl _) u, by rw [set_size]; exact h.sz⟩
theorem P3.pc (h : P3 tP tv W5 w pb vb vs P rv ev bv cv bx vc) (h1 : tP ≠ 3) (h2 : tv ≠ 3) {cv' : Value} {x : Int} (ho : w'.ownsRow pb 3 1 cv' (P.c.length + 1) (intV P.c ++ [.int .i64 x])) (hg : w.grownBy w' cv.ownBlock) (hat : cv'.ownBlock = cv.ownBlock ∨ cv'.ownBlock = some w.heap.size) :
    P3 tP tv W5 w' pb vb vs { P with c := P.c ++ [x] } rv ev bv cv' bx vc := by
  obtain ⟨a, b, c, d⟩ := h.kept h.pv.c hg h1 h2
  exact ⟨h.pv.push_c ho hg hat, a, b, c, d⟩
/-- A problem under way, in its box, and one more box that is kept. -/
def Bx3 (tP tv : TypeId) (w W5 : World) (pb vb : Nat) (vc : Array Value) (P : Prb) : Prop := ∃ vs rv ev bv cv, P3 tP tv W5 w pb vb vs P rv ev bv cv #[rv, ev, bv, cv] vc
end
theorem ws_i (i : Nat) (h : i < 67) : IntKind.i64.wrap (i : Int) = (i : Int) := by rw [IntKind.wrap_i64]; omega
theorem ws_w (i : Nat) (h : i < 67) : wrap64 (i : Int) = (i : Int) := by simp only [wrap64]; omega
theorem ws_ri (r : Int) (h1 : -200000 ≤ r) (h2 : r ≤ 200000) : IntKind.i64.wrap r = r := by rw [IntKind.wrap_i64]; omega
theorem ws_rw (r : Int) (h1 : -200000 ≤ r) (h2 : r ≤ 200000) : wrap64 r = r := by simp only [wrap64]; omega
theorem rg_c {r c : Int} {i : Nat} (h : -100000 - 1000 * (i : Int) ≤ r ∧ r ≤ 100000 + 1000 * (i : Int)) (hi : i < 67) (h1 : 0 ≤ c) (h2 : c ≤ 1000) : -200000 ≤ r - c ∧ r - c ≤ 200000 ∧ -200000 ≤ r + c ∧ r + c ≤ 200000 := by omega
theorem rg_0 (r : Int) (l : Ln) : r - -1 * (lVr l).lo = r - l.c := by simp only [lVr]; omega
theorem rg_1 (r : Int) (l : Ln) : r - 1 * (lVr l).lo = r + l.c := by simp only [lVr]; omega
theorem prt_skip (V : List Vr) (z : Int) (j : Nat) (h : j < V.length) (h0 : gvs V[j] z = 0) : prt V z (j + 1) = prt V z j := by
  rw [← prt_succ V z j h, h0]
  have hl := prt_len V z j (by omega)
  refine List.ext_getElem (by simp) (fun n h1 h2 => ?_)
  rw [List.getElem_set]
  split
  · rename_i e
    subst e
    simp only [prt]
    rw [List.getElem_append_right (by simp; omega)]
    simp
  · rfl
theorem rgt_zero (V : List Vr) (x z : Int) : ∀ m, m ≤ V.length → (∀ i (h : i < V.length), i < m → V[i].lo = 0) → rgt (V.take m) x z = -x
  | 0, _, _ => by simp [rgt]
  | m + 1, h, h0 => by
    rw [rgt_succ V x z m (by omega), h0 m (by omega) (by omega), rgt_zero V x z m (by omega) (fun i hi him => h0 i hi (by omega))]
    simp
theorem vrs_len (Z H : Int) (S : List Sp) (L : List Ln) : (vrs Z H S L).length = (ofH Z H S).length + L.length := by simp [vrs]
theorem vrs_step (Z H : Int) (S : List Sp) (L : List Ln) (k : Nat) (h : k < (ofH Z H S).length) (h' : k < (vrs Z H S L).length) : (vrs Z H S L)[k] = sVr (ofH Z H S)[k] := by
  simp [vrs, List.getElem_append, h]
theorem vrs_line (Z H : Int) (S : List Sp) (L : List Ln) (k : Nat) (h : ¬ k < (ofH Z H S).length) (h' : k < (vrs Z H S L).length) (h2 : k - (ofH Z H S).length < L.length) : (vrs Z H S L)[k] = lVr L[k - (ofH Z H S).length] := by
  simp [vrs, List.getElem_append, h]
end Go.Proofs.Ytlkcfgjhgmpbcaa
