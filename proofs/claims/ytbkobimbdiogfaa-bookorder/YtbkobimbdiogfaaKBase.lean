/- order: an Ask as eighteen cells; a wide value loaded and stored whole. -/
import Derived.Test.YtbkobimbdiogfaaLBase
import Derived.Deep.MidRow
namespace Go.Proofs.Ytbkobimbdiogfaa
open Go.RowKit
set_option linter.unusedVariables false
set_option maxRecDepth 100000
set_option linter.unusedSimpArgs false

theorem info_Ask : (Try.prog.info? 28).map (·.size) = some 18 := by kernel_rfl
theorem info_apiStep : (Try.prog.info? 23).map (·.size) = some 7 := by kernel_rfl
theorem info_apiBlock : (Try.prog.info? 26).map (·.size) = some 8 := by kernel_rfl
theorem info_lockLine : (Try.prog.info? 91).map (·.size) = some 18 := by kernel_rfl
theorem info_stepLine : (Try.prog.info? 94).map (·.size) = some 7 := by kernel_rfl
theorem info_blockLine : (Try.prog.info? 97).map (·.size) = some 8 := by kernel_rfl
theorem info_cancelLine : (Try.prog.info? 99).map (·.size) = some 18 := by kernel_rfl
section
variable {P : Program}
theorem wpList_store_new {ops : Array Oper} {rest : List Oper} {o : Oper} {a : Act} {w : World} {Q : Exit → Act → World → Prop} (hgd : o.guard = none) (t : TypeId) (x y : Operand) (ho : o.op = .store t x y)
    (c c' : Array Value) (b : Nat) (hx : a.eval x = .pointer (some ⟨b, 0, none⟩)) (hb : b = w.heap.size) (hy : a.eval y = .agg c') (n : Nat) (hi : (P.info? t).map (·.size) = some n) (hn : c'.size = n) (hs : c.size = n) (h1 : c'.all (·.oneCell') = true)
    (h : wpList P ops Q rest (a.put o.dst undef) (w.alloc (.cells c' t))) : wpList P ops Q (o :: rest) a (w.alloc (.cells c t)) :=
  wpList_plain hgd fun K hK => by
    subst hb
    rw [← hn] at hi hs
    unfold Oper.wp execOp
    simp only [ho, hx, hy, Instr.storeAt, Instr.sureAddr, Sem.run_bind, Sem.run_pure, Result.andThen_ok, run_storeVar_new w t c c' hi hs h1]
    exact hK _ _ h
end
/-- A wide value's cells, loaded: what there is of them. (Without these the walk's own steps cost the kernel minutes.) -/
def cellsSlow (P : Program) (p : Addr) (n : Nat) (w : World) := (loadCellsFrom p 0 n #[]).run P w
@[go_sem ↓] theorem run_cells18 (P : Program) (b : Nat) (w : World) :
    (loadCellsFrom ⟨b, 0, none⟩ 0 18 #[]).run P w = if ((w.cell? ⟨b, 0, none⟩).isSome && (w.cell? ⟨b, 1, none⟩).isSome && (w.cell? ⟨b, 2, none⟩).isSome && (w.cell? ⟨b, 3, none⟩).isSome && (w.cell? ⟨b, 4, none⟩).isSome && (w.cell? ⟨b, 5, none⟩).isSome && (w.cell? ⟨b, 6, none⟩).isSome && (w.cell? ⟨b, 7, none⟩).isSome && (w.cell? ⟨b, 8, none⟩).isSome && (w.cell? ⟨b, 9, none⟩).isSome && (w.cell? ⟨b, 10, none⟩).isSome && (w.cell? ⟨b, 11, none⟩).isSome && (w.cell? ⟨b, 12, none⟩).isSome && (w.cell? ⟨b, 13, none⟩).isSome && (w.cell? ⟨b, 14, none⟩).isSome && (w.cell? ⟨b, 15, none⟩).isSome && (w.cell? ⟨b, 16, none⟩).isSome && (w.cell? ⟨b, 17, none⟩).isSome) = true then .ok #[(w.cell? ⟨b, 0, none⟩).getD undef, (w.cell? ⟨b, 1, none⟩).getD undef, (w.cell? ⟨b, 2, none⟩).getD undef, (w.cell? ⟨b, 3, none⟩).getD undef, (w.cell? ⟨b, 4, none⟩).getD undef, (w.cell? ⟨b, 5, none⟩).getD undef, (w.cell? ⟨b, 6, none⟩).getD undef, (w.cell? ⟨b, 7, none⟩).getD undef, (w.cell? ⟨b, 8, none⟩).getD undef, (w.cell? ⟨b, 9, none⟩).getD undef, (w.cell? ⟨b, 10, none⟩).getD undef, (w.cell? ⟨b, 11, none⟩).getD undef, (w.cell? ⟨b, 12, none⟩).getD undef, (w.cell? ⟨b, 13, none⟩).getD undef, (w.cell? ⟨b, 14, none⟩).getD undef, (w.cell? ⟨b, 15, none⟩).getD undef, (w.cell? ⟨b, 16, none⟩).getD undef, (w.cell? ⟨b, 17, none⟩).getD undef] w else cellsSlow P ⟨b, 0, none⟩ 18 w := by
  split
  · rename_i h
    simp only [Bool.and_eq_true] at h
    obtain ⟨⟨⟨⟨⟨⟨⟨⟨⟨⟨⟨⟨⟨⟨⟨⟨⟨h0, h1⟩, h2⟩, h3⟩, h4⟩, h5⟩, h6⟩, h7⟩, h8⟩, h9⟩, h10⟩, h11⟩, h12⟩, h13⟩, h14⟩, h15⟩, h16⟩, h17⟩ := h
    obtain ⟨v0, e0⟩ := Option.isSome_iff_exists.1 h0
    obtain ⟨v1, e1⟩ := Option.isSome_iff_exists.1 h1
    obtain ⟨v2, e2⟩ := Option.isSome_iff_exists.1 h2
    obtain ⟨v3, e3⟩ := Option.isSome_iff_exists.1 h3
    obtain ⟨v4, e4⟩ := Option.isSome_iff_exists.1 h4
    obtain ⟨v5, e5⟩ := Option.isSome_iff_exists.1 h5
    obtain ⟨v6, e6⟩ := Option.isSome_iff_exists.1 h6
    obtain ⟨v7, e7⟩ := Option.isSome_iff_exists.1 h7
    obtain ⟨v8, e8⟩ := Option.isSome_iff_exists.1 h8
    obtain ⟨v9, e9⟩ := Option.isSome_iff_exists.1 h9
    obtain ⟨v10, e10⟩ := Option.isSome_iff_exists.1 h10
    obtain ⟨v11, e11⟩ := Option.isSome_iff_exists.1 h11
    obtain ⟨v12, e12⟩ := Option.isSome_iff_exists.1 h12
    obtain ⟨v13, e13⟩ := Option.isSome_iff_exists.1 h13
    obtain ⟨v14, e14⟩ := Option.isSome_iff_exists.1 h14
    obtain ⟨v15, e15⟩ := Option.isSome_iff_exists.1 h15
    obtain ⟨v16, e16⟩ := Option.isSome_iff_exists.1 h16
    obtain ⟨v17, e17⟩ := Option.isSome_iff_exists.1 h17
    rw [e0, e1, e2, e3, e4, e5, e6, e7, e8, e9, e10, e11, e12, e13, e14, e15, e16, e17]
    exact run_loadCells_list w ⟨b, 0, none⟩ [v0, v1, v2, v3, v4, v5, v6, v7, v8, v9, v10, v11, v12, v13, v14, v15, v16, v17] (fun j v hv => by
      rw [Addr.add_mid, Nat.zero_add]
      match j, hv with
      | 0, hv => rw [e0]; exact hv
      | 1, hv => rw [e1]; exact hv
      | 2, hv => rw [e2]; exact hv
      | 3, hv => rw [e3]; exact hv
      | 4, hv => rw [e4]; exact hv
      | 5, hv => rw [e5]; exact hv
      | 6, hv => rw [e6]; exact hv
      | 7, hv => rw [e7]; exact hv
      | 8, hv => rw [e8]; exact hv
      | 9, hv => rw [e9]; exact hv
      | 10, hv => rw [e10]; exact hv
      | 11, hv => rw [e11]; exact hv
      | 12, hv => rw [e12]; exact hv
      | 13, hv => rw [e13]; exact hv
      | 14, hv => rw [e14]; exact hv
      | 15, hv => rw [e15]; exact hv
      | 16, hv => rw [e16]; exact hv
      | 17, hv => rw [e17]; exact hv
      | j + 18, hv => simp at hv)
  · rfl
@[go_sem ↓] theorem run_cells7 (P : Program) (b o : Nat) (w : World) :
    (loadCellsFrom ⟨b, o, none⟩ 0 7 #[]).run P w = if ((w.cell? ⟨b, o, none⟩).isSome && (w.cell? ⟨b, o + 1, none⟩).isSome && (w.cell? ⟨b, o + 2, none⟩).isSome && (w.cell? ⟨b, o + 3, none⟩).isSome && (w.cell? ⟨b, o + 4, none⟩).isSome && (w.cell? ⟨b, o + 5, none⟩).isSome && (w.cell? ⟨b, o + 6, none⟩).isSome) = true then .ok #[(w.cell? ⟨b, o, none⟩).getD undef, (w.cell? ⟨b, o + 1, none⟩).getD undef, (w.cell? ⟨b, o + 2, none⟩).getD undef, (w.cell? ⟨b, o + 3, none⟩).getD undef, (w.cell? ⟨b, o + 4, none⟩).getD undef, (w.cell? ⟨b, o + 5, none⟩).getD undef, (w.cell? ⟨b, o + 6, none⟩).getD undef] w else cellsSlow P ⟨b, o, none⟩ 7 w := by
  split
  · rename_i h
    simp only [Bool.and_eq_true] at h
    obtain ⟨⟨⟨⟨⟨⟨h0, h1⟩, h2⟩, h3⟩, h4⟩, h5⟩, h6⟩ := h
    obtain ⟨v0, e0⟩ := Option.isSome_iff_exists.1 h0
    obtain ⟨v1, e1⟩ := Option.isSome_iff_exists.1 h1
    obtain ⟨v2, e2⟩ := Option.isSome_iff_exists.1 h2
    obtain ⟨v3, e3⟩ := Option.isSome_iff_exists.1 h3
    obtain ⟨v4, e4⟩ := Option.isSome_iff_exists.1 h4
    obtain ⟨v5, e5⟩ := Option.isSome_iff_exists.1 h5
    obtain ⟨v6, e6⟩ := Option.isSome_iff_exists.1 h6
    rw [e0, e1, e2, e3, e4, e5, e6]
    exact run_loadCells_list w ⟨b, o, none⟩ [v0, v1, v2, v3, v4, v5, v6] (fun j v hv => by
      rw [Addr.add_mid]
      match j, hv with
      | 0, hv => rw [Nat.add_zero]; rw [e0]; exact hv
      | 1, hv => rw [e1]; exact hv
      | 2, hv => rw [e2]; exact hv
      | 3, hv => rw [e3]; exact hv
      | 4, hv => rw [e4]; exact hv
      | 5, hv => rw [e5]; exact hv
      | 6, hv => rw [e6]; exact hv
      | j + 7, hv => simp at hv)
  · rfl
@[go_sem ↓] theorem run_cells8 (P : Program) (b o : Nat) (w : World) :
    (loadCellsFrom ⟨b, o, none⟩ 0 8 #[]).run P w = if ((w.cell? ⟨b, o, none⟩).isSome && (w.cell? ⟨b, o + 1, none⟩).isSome && (w.cell? ⟨b, o + 2, none⟩).isSome && (w.cell? ⟨b, o + 3, none⟩).isSome && (w.cell? ⟨b, o + 4, none⟩).isSome && (w.cell? ⟨b, o + 5, none⟩).isSome && (w.cell? ⟨b, o + 6, none⟩).isSome && (w.cell? ⟨b, o + 7, none⟩).isSome) = true then .ok #[(w.cell? ⟨b, o, none⟩).getD undef, (w.cell? ⟨b, o + 1, none⟩).getD undef, (w.cell? ⟨b, o + 2, none⟩).getD undef, (w.cell? ⟨b, o + 3, none⟩).getD undef, (w.cell? ⟨b, o + 4, none⟩).getD undef, (w.cell? ⟨b, o + 5, none⟩).getD undef, (w.cell? ⟨b, o + 6, none⟩).getD undef, (w.cell? ⟨b, o + 7, none⟩).getD undef] w else cellsSlow P ⟨b, o, none⟩ 8 w := by
  split
  · rename_i h
    simp only [Bool.and_eq_true] at h
    obtain ⟨⟨⟨⟨⟨⟨⟨h0, h1⟩, h2⟩, h3⟩, h4⟩, h5⟩, h6⟩, h7⟩ := h
    obtain ⟨v0, e0⟩ := Option.isSome_iff_exists.1 h0
    obtain ⟨v1, e1⟩ := Option.isSome_iff_exists.1 h1
    obtain ⟨v2, e2⟩ := Option.isSome_iff_exists.1 h2
    obtain ⟨v3, e3⟩ := Option.isSome_iff_exists.1 h3
    obtain ⟨v4, e4⟩ := Option.isSome_iff_exists.1 h4
    obtain ⟨v5, e5⟩ := Option.isSome_iff_exists.1 h5
    obtain ⟨v6, e6⟩ := Option.isSome_iff_exists.1 h6
    obtain ⟨v7, e7⟩ := Option.isSome_iff_exists.1 h7
    rw [e0, e1, e2, e3, e4, e5, e6, e7]
    exact run_loadCells_list w ⟨b, o, none⟩ [v0, v1, v2, v3, v4, v5, v6, v7] (fun j v hv => by
      rw [Addr.add_mid]
      match j, hv with
      | 0, hv => rw [Nat.add_zero]; rw [e0]; exact hv
      | 1, hv => rw [e1]; exact hv
      | 2, hv => rw [e2]; exact hv
      | 3, hv => rw [e3]; exact hv
      | 4, hv => rw [e4]; exact hv
      | 5, hv => rw [e5]; exact hv
      | 6, hv => rw [e6]; exact hv
      | 7, hv => rw [e7]; exact hv
      | j + 8, hv => simp at hv)
  · rfl
/-- The cells of block b. -/
theorem blk_cell {w : World} {b : Nat} {C : Array Value} {t : TypeId} {fr : Nat × Nat} (h : w.heap[b]? = some (.cells C t fr)) (k : Nat) (v : Value) (hk : C[k]? = some v) : w.cell? ⟨b, k, none⟩ = some v := by
  rw [cell_of_row _ _ k _ _ _ h]; exact hk
theorem blk_free {w : World} {b : Nat} {C : Array Value} {t : TypeId} (h : w.heap[b]? = some (.cells C t (0, 0))) (k : Nat) : w.frozen? ⟨b, k, none⟩ = false := by simp [World.frozen?, h]
theorem blk_below {w w' : World} {b : Nat} {o : Obj} (h : w.heap[b]? = some o) (k : Below w.heap.size w w') : w'.heap[b]? = some o := (k.block b (lt_of_block h)).trans h
theorem alloc2_below (w : World) (A B : Obj) : Below w.heap.size w ((w.alloc A).alloc B) := by
  have h := (Below.refl w.heap.size w).alloc (Nat.le_refl _) A
  exact h.alloc (by simp) B
end Go.Proofs.Ytbkobimbdiogfaa
