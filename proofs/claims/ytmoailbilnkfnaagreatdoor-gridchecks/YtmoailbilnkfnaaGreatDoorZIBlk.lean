/- grid: numbers in a block of one's own. -/
import Derived.Test.YtmoailbilnkfnaaGreatDoorPk16
import Derived.Laws.MakeOwn
import Derived.Below
namespace Go.Proofs.YtmoailbilnkfnaaGreatDoor
open Go.RowKit
set_option linter.unusedVariables false
set_option maxRecDepth 100000
set_option linter.unusedSimpArgs false

/-- Numbers as cells. -/
def iv (R : List Nat) : List Value := R.map fun (x : Nat) => Value.int .i64 (x : Int)
theorem iv_len (R : List Nat) : (iv R).length = R.length := by simp [iv]
theorem iv_set (R : List Nat) (i x : Nat) : (iv R).set i (.int .i64 (x : Int)) = iv (R.set i x) := by simp [iv, List.map_set]
theorem iv_at {R : List Nat} {i : Nat} (h : i < R.length) : (iv R)[i]? = some (.int .i64 ((at' R i : Nat) : Int)) := by
  simp [iv, at', List.getD_eq_getElem?_getD, h]
theorem iinfo : (Tryz.prog.info? 3).map (fun i => (i.zero, i.size, i.bytes)) = some (some (.int .i64 0), 1, 8) := by kernel_rfl
theorem iparts {P : Program} {t : TypeId} {z : Option Value} {s b : Nat} (h : (P.info? t).map (fun i => (i.zero, i.size, i.bytes)) = some (z, s, b)) : ∃ i, P.info? t = some i ∧ i.zero = z ∧ i.size = s ∧ i.bytes = b := by
  cases hi : P.info? t with
  | none => rw [hi] at h; cases h
  | some i => rw [hi] at h; simp only [Option.map_some, Option.some.injEq, Prod.mk.injEq] at h; exact ⟨i, rfl, h.1, h.2.1, h.2.2⟩
theorem imade (n : Nat) : madeCells (Value.cells (.int .i64 0)) (n * 1) = (iv (List.replicate n 0)).toArray := by
  apply Array.toList_inj.1
  have : (madeCells (Value.cells (.int .i64 0)) (n * 1)).toList = List.replicate (n * 1) (Value.int .i64 0) := toList_madeCells_one _ _
  rw [this]
  simp [iv]
theorem imake (n : Nat) (hn : n ≤ 1000) (V : World) : (Instr.makeSlice 32 (.int .i64 (n : Int)) (.int .i64 (n : Int))).run Tryz.prog V = .ok (.slice (some ⟨V.heap.size, 0, none⟩) n n) (V.alloc (.cells (iv (List.replicate n 0)).toArray 3)) := by
  obtain ⟨i0, hi0, hz0, hz1, hz2⟩ := iparts iinfo
  have := run_make (P := Tryz.prog) (w := V) 32 3 i0 (.int .i64 0) Tryz.underlying32 hi0 hz0 .i64 .i64 (n : Int) (n : Int) (by omega) (by omega) (by rw [hz2]; omega) (by omega)
  rw [hz1] at this
  simp only [Int.toNat_natCast] at this
  rw [imade] at this
  exact this
/-- Numbers in a block. -/
def Ib (w : World) (b : Nat) (R : List Nat) : Prop := w.heap[b]? = some (.cells (iv R).toArray 3 (0, 0))
theorem Ib.cell {w : World} {b : Nat} {R : List Nat} (h : Ib w b R) (i : Nat) (hi : i < R.length) : w.cell? ⟨b, i, none⟩ = some (.int .i64 ((at' R i : Nat) : Int)) := cell_at h i _ (iv_at hi)
theorem Ib.free {w : World} {b : Nat} {R : List Nat} (h : Ib w b R) (i : Nat) : w.frozen? ⟨b, i, none⟩ = false := free_at h i
theorem Ib.set {w : World} {b : Nat} {R : List Nat} (h : Ib w b R) (i x : Nat) : Ib (w.setCell ⟨b, i, none⟩ (.int .i64 (x : Int))) b (R.set i x) := by
  have := set_at (k := i) (v := .int .i64 (x : Int)) h
  rwa [iv_set] at this
theorem Ib.drew {w : World} {b : Nat} {R : List Nat} (h : Ib w b R) : Ib w.drew b R := h
theorem Ib.below {w w' : World} {b : Nat} {R : List Nat} (h : Ib w b R) (k : Below w.heap.size w w') : Ib w' b R := (k.block b (lt_of_block h)).trans h
theorem Ib.ints {w : World} {b : Nat} {R : List Nat} (h : Ib w b R) (hl : R.length ≤ 1000) : Ints w (.slice (some ⟨b, 0, none⟩) R.length R.length) (R.map fun x => ((x : Nat) : Int)) := by
  have e : iv R = intV (R.map fun x => ((x : Nat) : Int)) := by simp [iv, intV]
  have := Row1.of_block h (by rw [iv_len]; unfold maxLen; omega)
  rw [iv_len, e] at this
  exact this
theorem cell_set_ne {w : World} {b c i j : Nat} (v : Value) (_ : i = i) (_ : j = j) (h : c ≠ b) : (w.setCell ⟨b, i, none⟩ v).cell? ⟨c, j, none⟩ = w.cell? ⟨c, j, none⟩ := by
  unfold World.cell?
  rw [Below.heap_setCell _ _ _ _ h]
def blkOf : Value → Nat
  | .slice (some a) _ _ => a.block
  | _ => 0
theorem arr_of (n : Nat) (T : Array Value) (h : T.size = n) : T = ((List.range n).map (fun i => T.getD i undef)).toArray := by
  apply Array.ext
  · simp [h]
  · intro i h1 h2
    simp [Array.getD, h1]
theorem frame_ex (a : Act) (v0 v1 v2 v3 : Value) (hs : a.tmps.size = 66) (h0 : a.tmps.getD 0 undef = v0) (h1 : a.tmps.getD 1 undef = v1) (h2 : a.tmps.getD 2 undef = v2) (h3 : a.tmps.getD 3 undef = v3) (hd : a.defers = []) : ∃ u : Nat → Value, a = { tmps := #[v0, v1, v2, v3, u 4, u 5, u 6, u 7, u 8, u 9, u 10, u 11, u 12, u 13, u 14, u 15, u 16, u 17, u 18, u 19, u 20, u 21, u 22, u 23, u 24, u 25, u 26, u 27, u 28, u 29, u 30, u 31, u 32, u 33, u 34, u 35, u 36, u 37, u 38, u 39, u 40, u 41, u 42, u 43, u 44, u 45, u 46, u 47, u 48, u 49, u 50, u 51, u 52, u 53, u 54, u 55, u 56, u 57, u 58, u 59, u 60, u 61, u 62, u 63, u 64, u 65], defers := [] } := by
  obtain ⟨T, D⟩ := a
  simp only at hs h0 h1 h2 h3 hd
  subst h0 h1 h2 h3 hd
  refine ⟨fun i => T.getD i undef, ?_⟩
  have e := arr_of 66 T hs
  have : T = #[T.getD 0 undef, T.getD 1 undef, T.getD 2 undef, T.getD 3 undef, T.getD 4 undef, T.getD 5 undef, T.getD 6 undef, T.getD 7 undef, T.getD 8 undef, T.getD 9 undef, T.getD 10 undef, T.getD 11 undef, T.getD 12 undef, T.getD 13 undef, T.getD 14 undef, T.getD 15 undef, T.getD 16 undef, T.getD 17 undef, T.getD 18 undef, T.getD 19 undef, T.getD 20 undef, T.getD 21 undef, T.getD 22 undef, T.getD 23 undef, T.getD 24 undef, T.getD 25 undef, T.getD 26 undef, T.getD 27 undef, T.getD 28 undef, T.getD 29 undef, T.getD 30 undef, T.getD 31 undef, T.getD 32 undef, T.getD 33 undef, T.getD 34 undef, T.getD 35 undef, T.getD 36 undef, T.getD 37 undef, T.getD 38 undef, T.getD 39 undef, T.getD 40 undef, T.getD 41 undef, T.getD 42 undef, T.getD 43 undef, T.getD 44 undef, T.getD 45 undef, T.getD 46 undef, T.getD 47 undef, T.getD 48 undef, T.getD 49 undef, T.getD 50 undef, T.getD 51 undef, T.getD 52 undef, T.getD 53 undef, T.getD 54 undef, T.getD 55 undef, T.getD 56 undef, T.getD 57 undef, T.getD 58 undef, T.getD 59 undef, T.getD 60 undef, T.getD 61 undef, T.getD 62 undef, T.getD 63 undef, T.getD 64 undef, T.getD 65 undef] := e.trans rfl
  exact congrArg (fun X => Act.mk X []) this
/-- What sinks, in memory. -/
def muB (b : Nat) (w : World) : Nat := match w.heap[b]? with
  | some (.cells C _ _) => sumR (C.toList.map fun v => (intOf v).toNat)
  | _ => 0
theorem muB_is {w : World} {b : Nat} {R : List Nat} (h : Ib w b R) : muB b w = sumR R := by
  unfold muB
  rw [show w.heap[b]? = _ from h]
  simp only [iv, List.map_map]
  congr 1
  have : ((fun v => (intOf v).toNat) ∘ fun (x : Nat) => Value.int .i64 (x : Int)) = id := by funext x; simp [intOf]
  simp [this]
/-- The zones that were laid so far. -/
def firstR (n k : Nat) : List Nat := List.range k ++ List.replicate (n - k) 0
theorem firstR_len {n k : Nat} (h : k ≤ n) : (firstR n k).length = n := by simp [firstR]; omega
theorem firstR_succ {n k : Nat} (h : k < n) : (firstR n k).set k k = firstR n (k + 1) := by
  unfold firstR
  obtain ⟨d, hd⟩ : ∃ d, n - k = d + 1 := ⟨n - k - 1, by omega⟩
  rw [hd, show n - (k + 1) = d by omega, List.set_append_right _ _ (by simp), List.range_succ]
  simp [List.replicate_succ]
theorem firstR_all (n : Nat) : firstR n n = List.range n := by simp [firstR]
/-- Lines that are behind. -/
def CloK (S : List Ln) (R : List Nat) (k : Nat) : Prop := ∀ i, i < k → ∀ h : i < S.length, 0 < S[i].c → at' R S[i].f.toNat = at' R S[i].t.toNat
theorem CloK.all {S : List Ln} {R : List Nat} (h : CloK S R S.length) : Clo S R := by
  intro l hl hp
  obtain ⟨i, hi, rfl⟩ := List.mem_iff_getElem.1 hl
  exact h i hi hi hp
theorem CloK.succ {S : List Ln} {R : List Nat} {k : Nat} (h : CloK S R k) (hk : k < S.length) (e : 0 < S[k].c → at' R S[k].f.toNat = at' R S[k].t.toNat) : CloK S R (k + 1) := by
  intro i hi hl hp
  rcases Nat.lt_or_ge i k with q | q
  · exact h i q hl hp
  · obtain rfl : i = k := by omega
    exact e hp
end Go.Proofs.YtmoailbilnkfnaaGreatDoor
