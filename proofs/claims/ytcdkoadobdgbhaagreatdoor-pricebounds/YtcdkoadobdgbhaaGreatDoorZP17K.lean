/- price: what is changed alone. -/
import Derived.Test.YtcdkoadobdgbhaaGreatDoorPk16
import Derived.Test.YtcdkoadobdgbhaaGreatDoorZK15M
import Derived.Deep.MidRow
namespace Go.Proofs.YtcdkoadobdgbhaaGreatDoor
open Go.RowKit
set_option linter.unusedVariables false
set_option maxRecDepth 100000
set_option linter.unusedSimpArgs false

/-- All is as it was, but for the blocks of S. -/
structure Kq (S : Nat → Prop) (w w' : World) : Prop where
  os : w'.os = w.os
  tape : w'.tape = w.tape
  output : w'.output = w.output
  size : w.heap.size ≤ w'.heap.size
  block : ∀ k, k < w.heap.size → ¬ S k → w'.heap[k]? = w.heap[k]?
theorem Kq.refl (S : Nat → Prop) (w : World) : Kq S w w := ⟨rfl, rfl, rfl, Nat.le_refl _, fun _ _ _ => rfl⟩
theorem Kq.trans {S : Nat → Prop} {a b c : World} (h : Kq S a b) (k : Kq S b c) : Kq S a c :=
  ⟨k.os.trans h.os, k.tape.trans h.tape, k.output.trans h.output, Nat.le_trans h.size k.size, fun i hi hs => (k.block i (Nat.lt_of_lt_of_le hi h.size) hs).trans (h.block i hi hs)⟩
theorem Kq.of_below {S : Nat → Prop} {a b : World} (h : Below a.heap.size a b) : Kq S a b := ⟨h.os, h.tape, h.output, h.size, fun k hk _ => h.block k hk⟩
theorem Kq.below {S : Nat → Prop} {a b : World} {B : Nat} (h : Kq S a b) (hB : B ≤ a.heap.size) (hS : ∀ k, k < B → ¬ S k) : Below B a b := ⟨h.os, h.tape, h.output, h.size, fun k hk => h.block k (by omega) (hS k hk)⟩
theorem Kq.grown {S : Nat → Prop} {a b c : World} {row : Option Nat} (h : Kq S a b) (hg : b.grownBy c row) (hr : ∀ g, row = some g → S g ∨ a.heap.size ≤ g) : Kq S a c :=
  ⟨hg.os.trans h.os, hg.tape.trans h.tape, hg.output.trans h.output, Nat.le_trans h.size hg.size, fun k hk hs => (hg.block k (Nat.lt_of_lt_of_le hk h.size) (fun e => by
    rcases hr k e.symm with h1 | h1
    · exact hs h1
    · omega)).trans (h.block k hk hs)⟩
theorem Kq.set {S : Nat → Prop} {a b : World} (h : Kq S a b) (g i : Nat) (v : Value) (hg : S g ∨ a.heap.size ≤ g) : Kq S a (b.setCell ⟨g, i, none⟩ v) :=
  ⟨h.os, h.tape, h.output, by show _ ≤ (b.heap.modify _ _).size; rw [Array.size_modify]; exact h.size, fun k hk hs => (Below.heap_setCell b ⟨g, i, none⟩ v k (fun e => by
    simp only at e
    subst e
    rcases hg with h1 | h1
    · exact hs h1
    · omega)).trans (h.block k hk hs)⟩
theorem Kq.alloc {S : Nat → Prop} {a b : World} (h : Kq S a b) (o : Obj) : Kq S a (b.alloc o) := h.trans (Kq.of_below (ibel b o))
theorem Kq.cell {S : Nat → Prop} {a b : World} (h : Kq S a b) {p : Addr} {v : Value} (hp : a.cell? p = some v) (hs : ¬ S p.block) : b.cell? p = some v := by
  rw [← hp]
  exact World.cell?_of_block (h.block _ (World.block_lt_of_cell? a _ hp) hs)
def cells11Slow (P : Program) (p : Addr) (w : World) := (loadCellsFrom p 0 11 #[]).run P w
@[go_sem ↓] theorem run_cells11 (P : Program) (b o : Nat) (w : World) :
    (loadCellsFrom ⟨b, o, none⟩ 0 11 #[]).run P w = if ((w.cell? ⟨b, o, none⟩).isSome && (w.cell? ⟨b, o + 1, none⟩).isSome && (w.cell? ⟨b, o + 2, none⟩).isSome && (w.cell? ⟨b, o + 3, none⟩).isSome && (w.cell? ⟨b, o + 4, none⟩).isSome && (w.cell? ⟨b, o + 5, none⟩).isSome && (w.cell? ⟨b, o + 6, none⟩).isSome && (w.cell? ⟨b, o + 7, none⟩).isSome && (w.cell? ⟨b, o + 8, none⟩).isSome && (w.cell? ⟨b, o + 9, none⟩).isSome && (w.cell? ⟨b, o + 10, none⟩).isSome) = true then .ok #[(w.cell? ⟨b, o, none⟩).getD undef, (w.cell? ⟨b, o + 1, none⟩).getD undef, (w.cell? ⟨b, o + 2, none⟩).getD undef, (w.cell? ⟨b, o + 3, none⟩).getD undef, (w.cell? ⟨b, o + 4, none⟩).getD undef, (w.cell? ⟨b, o + 5, none⟩).getD undef, (w.cell? ⟨b, o + 6, none⟩).getD undef, (w.cell? ⟨b, o + 7, none⟩).getD undef, (w.cell? ⟨b, o + 8, none⟩).getD undef, (w.cell? ⟨b, o + 9, none⟩).getD undef, (w.cell? ⟨b, o + 10, none⟩).getD undef] w else cells11Slow P ⟨b, o, none⟩ w := by
  split
  · rename_i h
    simp only [Bool.and_eq_true] at h
    obtain ⟨⟨⟨⟨⟨⟨⟨⟨⟨⟨h0, h1⟩, h2⟩, h3⟩, h4⟩, h5⟩, h6⟩, h7⟩, h8⟩, h9⟩, h10⟩ := h
    obtain ⟨v0, e0⟩ := Option.isSome_iff_exists.1 h0
    obtain ⟨v1, e1⟩ := Option.isSome_iff_exists.1 h1
    obtain ⟨v2, e2⟩ := Option.isSome_iff_exists.1 h2
    obtain ⟨v3, e3⟩ := Option.isSome_iff_exists.1 h3
    obtain ⟨v4, e4⟩ := Option.isSome_iff_exists.1 h4
    obtain ⟨v5, e5⟩ := Option.isSome_iff_exists.1 h5
    obtain ⟨v6, e6⟩ := Option.isSome_iff_exists.1 h6
    obtain ⟨v7, e7⟩ := Option.isSome_iff_exists.1 h7
    obtain ⟨v8, e8⟩ := Option.isSome_iff_exists.1 h8
    obtain ⟨v9, e9⟩ := Option.isSome_iff_exists.1 h9
    obtain ⟨v10, e10⟩ := Option.isSome_iff_exists.1 h10
    rw [e0, e1, e2, e3, e4, e5, e6, e7, e8, e9, e10]
    exact run_loadCells_list w ⟨b, o, none⟩ [v0, v1, v2, v3, v4, v5, v6, v7, v8, v9, v10] (fun j v hv => by
      rw [Addr.add_mid]
      match j, hv with
      | 0, hv => rw [Nat.add_zero]; rw [e0]; exact hv
      | 1, hv => rw [e1]; exact hv
      | 2, hv => rw [e2]; exact hv
      | 3, hv => rw [e3]; exact hv
      | 4, hv => rw [e4]; exact hv
      | 5, hv => rw [e5]; exact hv
      | 6, hv => rw [e6]; exact hv
      | 7, hv => rw [e7]; exact hv
      | 8, hv => rw [e8]; exact hv
      | 9, hv => rw [e9]; exact hv
      | 10, hv => rw [e10]; exact hv
      | j + 11, hv => simp at hv)
  · rfl
end Go.Proofs.YtcdkoadobdgbhaaGreatDoor
