/- GridJoins: bools in a block of one's own. -/
import Derived.Test.YtmoailbilnkfnaaIBlk
namespace Go.Proofs.Ytmoailbilnkfnaa
open Go.RowKit
set_option linter.unusedVariables false
set_option maxRecDepth 100000
set_option linter.unusedSimpArgs false

def bvs (B : List Bool) : List Value := B.map fun (x : Bool) => Value.bool x
theorem bvs_len (B : List Bool) : (bvs B).length = B.length := by simp [bvs]
theorem bvs_set (B : List Bool) (i : Nat) (x : Bool) : (bvs B).set i (.bool x) = bvs (B.set i x) := by simp [bvs, List.map_set]
theorem bvs_at {B : List Bool} {i : Nat} (h : i < B.length) : (bvs B)[i]? = some (.bool (bat B i)) := by
  simp [bvs, bat, List.getD_eq_getElem?_getD, h]
theorem binfo : (Try.prog.info? 4).map (fun i => (i.zero, i.size, i.bytes)) = some (some (.bool false), 1, 1) := by kernel_rfl
theorem bmade (n : Nat) : madeCells (Value.cells (.bool false)) (n * 1) = (bvs (List.replicate n false)).toArray := by
  apply Array.toList_inj.1
  have : (madeCells (Value.cells (.bool false)) (n * 1)).toList = List.replicate (n * 1) (Value.bool false) := toList_madeCells_one _ _
  rw [this]
  simp [bvs]
theorem bmake (n : Nat) (hn : n ≤ 1000) (V : World) : (Instr.makeSlice 32 (.int .i64 (n : Int)) (.int .i64 (n : Int))).run Try.prog V = .ok (.slice (some ⟨V.heap.size, 0, none⟩) n n) (V.alloc (.cells (bvs (List.replicate n false)).toArray 4)) := by
  obtain ⟨i0, hi0, hz0, hz1, hz2⟩ := iparts binfo
  have := run_make (P := Try.prog) (w := V) 32 4 i0 (.bool false) Try.underlying32 hi0 hz0 .i64 .i64 (n : Int) (n : Int) (by omega) (by omega) (by rw [hz2]; omega) (by omega)
  rw [hz1] at this
  simp only [Int.toNat_natCast] at this
  rw [bmade] at this
  exact this
def Bb (w : World) (b : Nat) (B : List Bool) : Prop := w.heap[b]? = some (.cells (bvs B).toArray 4 (0, 0))
theorem Bb.cell {w : World} {b : Nat} {B : List Bool} (h : Bb w b B) (i : Nat) (hi : i < B.length) : w.cell? ⟨b, i, none⟩ = some (.bool (bat B i)) := cell_at h i _ (bvs_at hi)
theorem Bb.free {w : World} {b : Nat} {B : List Bool} (h : Bb w b B) (i : Nat) : w.frozen? ⟨b, i, none⟩ = false := free_at h i
theorem Bb.set {w : World} {b : Nat} {B : List Bool} (h : Bb w b B) (i : Nat) (x : Bool) : Bb (w.setCell ⟨b, i, none⟩ (.bool x)) b (B.set i x) := by
  have := set_at (k := i) (v := .bool x) h
  rwa [bvs_set] at this
theorem Bb.below {w w' : World} {b : Nat} {B : List Bool} (h : Bb w b B) (k : Below w.heap.size w w') : Bb w' b B := (k.block b (lt_of_block h)).trans h
theorem reach_take (S : List Ln) (B : List Bool) (i : Nat) (h : i < S.length) : reach (S.take (i + 1)) B = reach1 (reach (S.take i) B) S[i] := by
  unfold reach
  rw [List.take_add_one, List.getElem?_eq_getElem h, List.foldl_append]
  rfl
theorem ints_at {w : World} {v : Value} {R : List Nat} (h : Ints w v (R.map fun x => ((x : Nat) : Int))) (h0 : 0 < R.length) : ∃ b off c, v = .slice (some ⟨b, off, none⟩) R.length c ∧ R.length ≤ c ∧ c ≤ maxLen ∧ ∀ i, i < R.length → w.cell? ⟨b, off + i, none⟩ = some (.int .i64 ((at' R i : Nat) : Int)) := by
  obtain ⟨b, off, c, h1, h2, h3, -⟩ := h.at 0 (by simpa using h0)
  rw [List.length_map] at h1 h2
  refine ⟨b, off, c, h1, h2, h3, fun i hi => ?_⟩
  obtain ⟨b', off', c', h1', _, _, h4⟩ := h.at i (by simpa using hi)
  rw [h1] at h1'
  simp only [Value.slice.injEq, Option.some.injEq, Addr.mk.injEq] at h1'
  obtain ⟨⟨rfl, rfl, -⟩, -⟩ := h1'
  rw [h4]
  simp [at', List.getD_eq_getElem?_getD, hi]
end Go.Proofs.Ytmoailbilnkfnaa
