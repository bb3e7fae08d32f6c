/- rows of numbers: made, written into; an append within a region. -/
import Derived.Test.YtlkcfgjhgmpbcaaKPv
import Derived.Test.YtlkcfgjhgmpbcaaKSplit
import Derived.Test.YtlkcfgjhgmpbcaaK15L
import Derived.Maps.AppendAt
namespace Go.Proofs.Ytlkcfgjhgmpbcaa
open Go.RowKit
set_option linter.unusedVariables false
set_option maxRecDepth 100000
set_option linter.unusedSimpArgs false

theorem step_append_at {P : Program} {w : World} {ops : Array Oper} {o : Oper} {a : Act} {K : Act → World → Prop} {Q : Exit → Act → World → Prop} {E : Prop} (hg : o.guard = none) (s x : Operand) (t : TypeId)
    (ho : o.op = .call { callee := .builtin .append, args := #[s, x], argTypes := #[t, t] })
    (base : Nat) (e : TypeId) (i : TypeInfo) (z : Value) (size bytes : Nat) (ht : P.underlying t = some (.slice e)) (hi : P.info? e = some i) (hz : i.zero = some z)
    (hsize : i.size = size) (hby : i.bytes = bytes) (hzs : z.cells.size = size) (hsz : 0 < size)
    (v : Value) (n : Nat) (xs : List Value) (hs : a.eval s = v) (hown : w.ownsRow base e size v n xs)
    (ad : Addr) (m c : Nat) (news : List Value) (hx : a.eval x = .slice (some ad) m c) (hl : news.length = m * size) (hnews : ∀ j u, news[j]? = some u → w.cell? (ad.add j) = some u) (h1 : ∀ u ∈ news, u.oneCell' = true)
    (h63 : n + m ≤ maxLen) (hbytes : (n + m) * bytes ≤ 140737488355328) (hbase : base ≤ w.heap.size)
    (hK : ∀ v' w', w'.ownsRow base e size v' (n + m) (xs ++ news) → w.grownBy w' v.ownBlock → (v'.ownBlock = v.ownBlock ∨ v'.ownBlock = some w.heap.size) → K (a.put o.dst v') w') :
    if Region.wanted o (yielded ops a.tmps) = true then Oper.wp P o a w K Q else E := by
  have hw : Region.wanted o (yielded ops a.tmps) = true := by simp [Region.wanted, hg]
  rw [if_pos hw]
  obtain ⟨v', w', hr, h2, h3, _, h5⟩ := run_append_own_at (P := P) w base t o.type e i z size bytes ht hi hz hsize hby hzs hsz v n xs hown ad m c news hl hnews h1 h63 hbytes hbase
  unfold Oper.wp
  simp [execOp, ho, resolve, invoke, builtin, hs, hx, hr, Result.andThen]
  exact hK v' w' h2 h3 h5
theorem kinfo_int : (Try.prog.info? 3).map (fun i => (i.zero, i.size, i.bytes)) = some (some (.int .i64 0), 1, 8) := by kernel_rfl
theorem kinfo_ints : (Try.prog.info? 26).map (fun i => (i.zero, i.size, i.bytes)) = some (some (.slice none 0 0), 1, 24) := by kernel_rfl
theorem kmade (n : Nat) : madeCells (Value.cells (.int .i64 0)) (n * 1) = (intV (List.replicate n 0)).toArray := by
  apply Array.toList_inj.1
  have : (madeCells (Value.cells (.int .i64 0)) (n * 1)).toList = List.replicate (n * 1) (Value.int .i64 0) := toList_madeCells_one _ _
  rw [this]
  simp [intV]
theorem kmake (n : Nat) (hn : n ≤ 1000) (V : World) : (Instr.makeSlice 26 (.int .i64 (n : Int)) (.int .i64 (n : Int))).run Try.prog V = .ok (.slice (some ⟨V.heap.size, 0, none⟩) n n) (V.alloc (.cells (intV (List.replicate n 0)).toArray 3)) := by
  obtain ⟨i0, hi0, hz0, hz1, hz2⟩ := kparts kinfo_int
  have := run_make (P := Try.prog) (w := V) 26 3 i0 (.int .i64 0) Try.underlying26 hi0 hz0 .i64 .i64 (n : Int) (n : Int) (by omega) (by omega) (by rw [hz2]; omega) (by omega)
  rw [hz1] at this
  simp only [Int.toNat_natCast] at this
  rw [kmade] at this
  exact this
theorem kmade_io (V : World) (base n : Nat) (hb : base ≤ V.heap.size) (hn : n ≤ 1000) : IO (V.alloc (.cells (intV (List.replicate n 0)).toArray 3)) base (.slice (some ⟨V.heap.size, 0, none⟩) n n) (List.replicate n 0) := by
  have := World.ownsRow_lit (e := 3) (size := 1) V (intV (List.replicate n 0)).toArray n hb (by unfold maxLen; omega) (by simp [intV])
  unfold IO
  rw [List.length_replicate]
  simpa using this
theorem intV_set (L : List Int) (i : Nat) (x : Int) : (intV L).set i (.int .i64 x) = intV (L.set i x) := by simp [intV]
/-- A number of a row of one's own is another one. -/
theorem IO.put {w : World} {base g n c : Nat} {L : List Int} (h : IO w base (.slice (some ⟨g, 0, none⟩) n c) L) (hl : L.length = n) (i : Nat) (hi : i < n) (x : Int) :
    (∃ u, w.cell? ⟨g, i, none⟩ = some (.int .i64 u)) ∧ w.frozen? ⟨g, i, none⟩ = false ∧ IO (w.setCell ⟨g, i, none⟩ (.int .i64 x)) base (.slice (some ⟨g, 0, none⟩) n c) (L.set i x) := by
  have h' : w.ownsRow base 3 1 (.slice (some ⟨g, 0, none⟩) n c) n (intV L) := by have := h; unfold IO at this; rw [hl] at this; exact this
  refine ⟨⟨L[i]'(by omega), ?_⟩, h'.frozenAt i, ?_⟩
  · rw [h'.cellAt i (by omega)]
    rw [List.getElem?_eq_getElem (by rw [intV_len]; omega), intV_at L i (by omega)]
  · have := (h'.stored i (.int .i64 x)).1
    rw [intV_set] at this
    unfold IO
    rw [List.length_set, hl]
    exact this
theorem slice_newV (X : World) (u : Value) (t : TypeId) : ∀ j v, [u][j]? = some v → (X.alloc (.cells #[u] t)).cell? ((⟨X.heap.size, 0, none⟩ : Addr).add j) = some v := by
  intro j v hj
  rw [add_off, Nat.zero_add]
  exact cell_at (L := [u]) (inew X _) j v hj
end Go.Proofs.Ytlkcfgjhgmpbcaa
