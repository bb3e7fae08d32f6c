/- An array within a greater block, loaded and stored as a whole. -/
import Derived.Test.YthcefjkpiaecjaaDSmall
namespace Go.Proofs.Ythcefjkpiaecjaa
open Go.RowKit
set_option linter.unusedVariables false
set_option maxRecDepth 100000
set_option linter.unusedSimpArgs false
section
variable {P : Program}
theorem add_off (g o j : Nat) : (⟨g, o, none⟩ : Addr).add j = ⟨g, o + j, none⟩ := by unfold Addr.add; split <;> simp_all
theorem run_storeSeg (g off : Nat) (t : TypeId) : ∀ (vs : List Value) (i : Nat) (L : List Value) (w : World), w.heap[g]? = some (.cells L.toArray t (0, 0)) → off + i + vs.length ≤ L.length → (∀ v ∈ vs, v.oneCell' = true) →
    ∃ w', (storeCells ⟨g, off, none⟩ vs i).run P w = .ok () w' ∧ w'.heap[g]? = some (.cells (L.take (off + i) ++ (vs ++ L.drop (off + i + vs.length))).toArray t (0, 0)) ∧ (∀ (S : Nat → Prop) B b, b = g → S b → B ≤ b → Kf S B w w') ∧ (∀ e size v n xs base, v.ownBlock ≠ some g → w.ownsRow base e size v n xs → w'.ownsRow base e size v n xs)
  | [], i, L, w, hg, hl, _ => by
    refine ⟨w, by simp [storeCells], ?_, fun S B b e hS hB => Kf.refl S B w, fun _ _ _ _ _ _ _ h => h⟩
    rw [hg]; simp
  | v :: rest, i, L, w, hg, hl, h1 => by
    have hi : off + i < L.length := by simp at hl; omega
    have hcell : w.cell? ⟨g, off + i, none⟩ = some L[off + i] := cell_at hg _ _ (by simp [hi])
    have hfro : w.frozen? ⟨g, off + i, none⟩ = false := free_at hg _
    have hst : (store ((⟨g, off, none⟩ : Addr).add i) v).run P w = .ok () (w.setCell ⟨g, off + i, none⟩ v) := by
      rw [add_off, run_store P w _ v _ (h1 v (by simp)), hcell]
      simp [hfro]
    obtain ⟨w', e1, e2, e3, e4⟩ := run_storeSeg g off t rest (i + 1) (L.set (off + i) v) (w.setCell ⟨g, off + i, none⟩ v) (set_at hg) (by simp at hl ⊢; omega) (fun x hx => h1 x (by simp [hx]))
    refine ⟨w', by simp only [storeCells, Sem.run_bind, hst, Result.andThen_ok, e1], ?_, fun S B b e hS hB => ?_, fun e size v' n xs base hv ho => e4 e size v' n xs base hv (ownsRow_setCell_other ho hv v)⟩
    · rw [e2]
      congr 3
      apply List.ext_getElem?
      intro k
      simp only [List.getElem?_append, List.length_take, List.length_set, List.length_cons, List.getElem?_take, List.getElem?_drop, List.getElem?_set]
      by_cases hk : k < off + i
      · simp [hk, show k < off + (i + 1) by omega, show min (off + (i + 1)) L.length = off + (i + 1) by omega, show min (off + i) L.length = off + i by omega, show off + i ≠ k by omega]
      · by_cases hk2 : k = off + i
        · subst hk2
          simp [show min (off + (i + 1)) L.length = off + (i + 1) by omega, show min (off + i) L.length = off + i by omega, show off + i < off + (i + 1) by omega, hi]
        · have a1 : min (off + (i + 1)) L.length = off + (i + 1) := by omega
          have a2 : min (off + i) L.length = off + i := by omega
          have a3 : k - (off + i) = (k - (off + (i + 1))) + 1 := by omega
          simp only [a1, a2, if_neg hk, if_neg (show ¬ k < off + (i + 1) by omega), a3, List.getElem?_cons_succ, Nat.add_lt_add_iff_right]
          split
          · rfl
          · rw [if_neg (by omega)]
            congr 1
            omega
    · subst e
      exact ((Kf.refl S B w).set hS hB v).trans (e3 S B b rfl hS hB)
theorem wp_store_seg {o : Oper} {a : Act} {w : World} {K : Act → World → Prop} {Q : Exit → Act → World → Prop} (ty : TypeId) (x y : Operand) (ho : o.op = .store ty x y)
    (g off : Nat) (vs : List Value) (hx : a.eval x = .pointer (some ⟨g, off, none⟩)) (hy : a.eval y = .agg vs.toArray)
    (t : TypeId) (L : List Value) (hg : w.heap[g]? = some (.cells L.toArray t (0, 0))) (hi : (P.info? ty).map (·.size) = some vs.length)
    (hl : off + vs.length ≤ L.length) (h1 : ∀ v ∈ vs, v.oneCell' = true)
    (h : ∀ w', w'.heap[g]? = some (.cells (L.take off ++ (vs ++ L.drop (off + vs.length))).toArray t (0, 0)) → (∀ (S : Nat → Prop) B b, b = g → S b → B ≤ b → Kf S B w w') → (∀ e size v n xs base, v.ownBlock ≠ some g → w.ownsRow base e size v n xs → w'.ownsRow base e size v n xs) → K (a.put o.dst undef) w') : o.wp P a w K Q := by
  obtain ⟨w', e1, e2, e3, e4⟩ := run_storeSeg (P := P) g off t vs 0 L w hg (by simpa using hl) h1
  have hrun : (storeVar ty ⟨g, off, none⟩ (.agg vs.toArray)).run P w = .ok () w' := by
    cases hq : P.info? ty with
    | none => simp [hq] at hi
    | some i =>
      have hs : vs.length = i.size := by simp [hq] at hi; omega
      simp [storeVar, sizeOf, typeInfo, hq, Value.cells, hs, e1]
  unfold Oper.wp execOp
  simp only [ho, hx, hy, Instr.storeAt, Instr.sureAddr, Sem.run_bind, Sem.run_pure, Result.andThen_ok, hrun]
  exact h w' (by simpa using e2) e3 e4
theorem wp_load_seg {o : Oper} {a : Act} {w : World} {K : Act → World → Prop} {Q : Exit → Act → World → Prop} (ty : TypeId) (x : Operand) (ho : o.op = .load ty x)
    (g off : Nat) (cs : List Value) (hx : a.eval x = .pointer (some ⟨g, off, none⟩)) (hc : ∀ j v, cs[j]? = some v → w.cell? ⟨g, off + j, none⟩ = some v)
    (n : Nat) (e : TypeId) (hu : P.underlying ty = some (.array n e)) (hi : (P.info? ty).map (·.size) = some cs.length)
    (h : K (a.put o.dst (.agg cs.toArray)) w) : o.wp P a w K Q := by
  have hl : (loadCells ⟨g, off, none⟩ cs.length).run P w = .ok cs.toArray w := run_loadCells_list (P := P) w ⟨g, off, none⟩ cs (fun j v hv => by rw [add_off]; exact hc j v hv)
  have hrun : (loadVar ty ⟨g, off, none⟩).run P w = .ok (.agg cs.toArray) w := by
    cases hq : P.info? ty with
    | none => simp [hq] at hi
    | some i =>
      have hs : cs.length = i.size := by simp [hq] at hi; omega
      rw [hs] at hl
      simp [loadVar, isAgg, sizeOf, typeInfo, hq, hl, hu, underlying]
  unfold Oper.wp execOp
  simp only [ho, hx, Instr.loadAt, Instr.sureAddr, Sem.run_bind, Sem.run_pure, Result.andThen_ok, hrun]
  exact h
end
end Go.Proofs.Ythcefjkpiaecjaa
