/- The laws of order: heavy, same. -/
import Derived.Test.YthhikmlbpagknaaDoorKPar
import Derived.BigQuiet
import Derived.Deep.QuietTactic
namespace Go.Proofs.YthhikmlbpagknaaDoor
open Go.RowKit
set_option linter.unusedVariables false
set_option maxRecDepth 100000
set_option linter.unusedSimpArgs false

set_option maxHeartbeats 1600000 in
theorem heavy9_yes (who line : ByteArray) (z h l hi : Int) (la : Option Addr) (ln lc : Nat) (w : World) (hw : who.size ≤ 9223372036854775807) (hl : line.size ≤ 9223372036854775807) (hn : ln ≤ 9223372036854775807) (hh : 4096 < who.size ∨ 4096 < line.size ∨ 256 < ln) :
    Calls Tryd.prog 7 #[.string who, .string line, .agg #[.int .i64 z, .int .i64 h, .slice la ln lc, .int .i64 l, .int .i64 hi]] w fun r w' => r = .returned (.bool true) ∧ Below w.heap.size w w' := by
  have b1 := (Below.refl w.heap.size w).alloc (Nat.le_refl _) (Obj.cells #[.int .i64 z, .int .i64 h, .slice la ln lc, .int .i64 l, .int .i64 hi] 24)
  by_cases h1 : 4096 < who.size
  · go_enter Tryd.func7, Tryd.ntmps7
    go_wp2
    go_ret
    exact ⟨rfl, b1⟩
  by_cases h2 : 4096 < line.size
  · go_enter Tryd.func7, Tryd.ntmps7
    go_wp2
    go_ret
    exact ⟨rfl, b1⟩
  · have h3 : decide ((256 : Int) < (ln : Int)) = true := decide_eq_true (by omega)
    clear hh
    go_enter Tryd.func7, Tryd.ntmps7
    go_wp2
    go_ret
    exact ⟨rfl, b1⟩
set_option maxHeartbeats 1600000 in
theorem heavy9_no (who line : ByteArray) (z h l hi : Int) (la : Option Addr) (ln lc : Nat) (w : World) (h1 : ¬ 4096 < who.size) (h2 : ¬ 4096 < line.size) (h3 : ¬ 256 < ln) :
    Calls Tryd.prog 7 #[.string who, .string line, .agg #[.int .i64 z, .int .i64 h, .slice la ln lc, .int .i64 l, .int .i64 hi]] w fun r w' => r = .returned (.bool false) ∧ Below w.heap.size w w' := by
  have b1 := (Below.refl w.heap.size w).alloc (Nat.le_refl _) (Obj.cells #[.int .i64 z, .int .i64 h, .slice la ln lc, .int .i64 l, .int .i64 hi] 24)
  have h4 : decide ((256 : Int) < (ln : Int)) = false := decide_eq_false (by omega)
  have h5 : decide ((4096 : Int) < (who.size : Int)) = false := decide_eq_false (by omega)
  have h6 : decide ((4096 : Int) < (line.size : Int)) = false := decide_eq_false (by omega)
  clear h1 h2 h3
  go_enter Tryd.func7, Tryd.ntmps7
  go_wp2
  go_ret
  exact ⟨rfl, b1⟩
set_option maxHeartbeats 6400000 in
theorem same9_true (a : Ak) (q1 q2 : Value) (w : World) (i1 : Ints w q1 a.bq) (i2 : Ints w q2 a.bq) :
    Calls Tryd.prog 10 #[.agg (askV a q1), .agg (askV a q2)] w fun r w' => r = .returned (.bool true) ∧ Below w.heap.size w w' := by
  obtain ⟨a1, c1, hv1, hl1, hm1⟩ := i1.slice
  obtain ⟨a2, c2, hv2, hl2, hm2⟩ := i2.slice
  subst hv1 hv2
  unfold maxLen at hm1 hm2
  have b1 := alloc2_below w (Obj.cells (askV a (.slice a1 a.bq.length c1)) 32) (Obj.cells (askV a (.slice a2 a.bq.length c2)) 36)
  unfold askV at *
  generalize hL : a.bq = L at *
  generalize a.kind = v0 at *
  generalize a.cents = v1 at *
  generalize a.seq = v2 at *
  generalize a.sw = v3 at *
  generalize a.s1 = v4 at *
  generalize a.s2 = v5 at *
  generalize a.s3 = v6 at *
  generalize a.sb = v7 at *
  generalize a.s5 = v8 at *
  generalize a.s6 = v9 at *
  generalize a.bw = v10 at *
  generalize a.b1 = v11 at *
  generalize a.b2 = v12 at *
  generalize a.bb = v13 at *
  generalize a.b4 = v14 at *
  generalize a.b6 = v16 at *
  generalize a.b7 = v17 at *
  clear hL
  go_enter Tryd.func10, Tryd.ntmps10
  go_wp2_with fail
  have x1 : ((w.alloc (Obj.cells #[Value.int .i64 v0, Value.int .i64 v1, Value.int .i64 v2, Value.string v3, Value.int .i64 v4, Value.int .i64 v5, Value.int .i64 v6, Value.bool v7, Value.int .i64 v8, Value.int .i64 v9, Value.string v10, Value.int .i64 v11, Value.int .i64 v12, Value.bool v13, Value.int .i64 v14, Value.slice a1 L.length c1, Value.int .i64 v16, Value.int .i64 v17] 32)).alloc (Obj.cells #[Value.int .i64 v0, Value.int .i64 v1, Value.int .i64 v2, Value.string v3, Value.int .i64 v4, Value.int .i64 v5, Value.int .i64 v6, Value.bool v7, Value.int .i64 v8, Value.int .i64 v9, Value.string v10, Value.int .i64 v11, Value.int .i64 v12, Value.bool v13, Value.int .i64 v14, Value.slice a2 L.length c2, Value.int .i64 v16, Value.int .i64 v17] 36)).heap[w.heap.size]? = some (Obj.cells #[Value.int .i64 v0, Value.int .i64 v1, Value.int .i64 v2, Value.string v3, Value.int .i64 v4, Value.int .i64 v5, Value.int .i64 v6, Value.bool v7, Value.int .i64 v8, Value.int .i64 v9, Value.string v10, Value.int .i64 v11, Value.int .i64 v12, Value.bool v13, Value.int .i64 v14, Value.slice a1 L.length c1, Value.int .i64 v16, Value.int .i64 v17] 32 (0, 0)) := blk_below (heap_alloc_last w _) ((Below.refl _ _).alloc (Nat.le_refl _) _)
  have x2 : ((w.alloc (Obj.cells #[Value.int .i64 v0, Value.int .i64 v1, Value.int .i64 v2, Value.string v3, Value.int .i64 v4, Value.int .i64 v5, Value.int .i64 v6, Value.bool v7, Value.int .i64 v8, Value.int .i64 v9, Value.string v10, Value.int .i64 v11, Value.int .i64 v12, Value.bool v13, Value.int .i64 v14, Value.slice a1 L.length c1, Value.int .i64 v16, Value.int .i64 v17] 32)).alloc (Obj.cells #[Value.int .i64 v0, Value.int .i64 v1, Value.int .i64 v2, Value.string v3, Value.int .i64 v4, Value.int .i64 v5, Value.int .i64 v6, Value.bool v7, Value.int .i64 v8, Value.int .i64 v9, Value.string v10, Value.int .i64 v11, Value.int .i64 v12, Value.bool v13, Value.int .i64 v14, Value.slice a2 L.length c2, Value.int .i64 v16, Value.int .i64 v17] 36)).heap[w.heap.size + 1]? = some (Obj.cells #[Value.int .i64 v0, Value.int .i64 v1, Value.int .i64 v2, Value.string v3, Value.int .i64 v4, Value.int .i64 v5, Value.int .i64 v6, Value.bool v7, Value.int .i64 v8, Value.int .i64 v9, Value.string v10, Value.int .i64 v11, Value.int .i64 v12, Value.bool v13, Value.int .i64 v14, Value.slice a2 L.length c2, Value.int .i64 v16, Value.int .i64 v17] 36 (0, 0)) := heap_alloc2_new _ _ _
  generalize (w.alloc (Obj.cells #[Value.int .i64 v0, Value.int .i64 v1, Value.int .i64 v2, Value.string v3, Value.int .i64 v4, Value.int .i64 v5, Value.int .i64 v6, Value.bool v7, Value.int .i64 v8, Value.int .i64 v9, Value.string v10, Value.int .i64 v11, Value.int .i64 v12, Value.bool v13, Value.int .i64 v14, Value.slice a1 L.length c1, Value.int .i64 v16, Value.int .i64 v17] 32)).alloc (Obj.cells #[Value.int .i64 v0, Value.int .i64 v1, Value.int .i64 v2, Value.string v3, Value.int .i64 v4, Value.int .i64 v5, Value.int .i64 v6, Value.bool v7, Value.int .i64 v8, Value.int .i64 v9, Value.string v10, Value.int .i64 v11, Value.int .i64 v12, Value.bool v13, Value.int .i64 v14, Value.slice a2 L.length c2, Value.int .i64 v16, Value.int .i64 v17] 36) = W at *
  have y1 := blk_cell x1 15 (Value.slice a1 L.length c1) rfl
  have y2 := blk_cell x2 15 (Value.slice a2 L.length c2) rfl
  have j1 := i1.below b1
  have j2 := i2.below b1
  clear x1 x2 i1 i2
  generalize w.heap.size + 1 = n1 at *
  go_loopw [5] (fun i wr => ∃ k : Nat, k ≤ L.length ∧ i = .int .i64 (k : Int) ∧ Below W.heap.size W wr) (fun i _ => L.length - (intOf i).toNat)
  case atStart => exact ⟨0, Nat.zero_le _, rfl, Below.refl _ _⟩
  case round =>
    obtain ⟨k, hk, rfl, hbel⟩ := hrel
    have hbw := chain2 b1 hbel
    have z1 : wr.cell? ⟨w.heap.size, 15, none⟩ = _ := (hbel.cell (World.block_lt_of_cell? _ _ y1)).trans y1
    have z2 : wr.cell? ⟨n1, 15, none⟩ = _ := (hbel.cell (World.block_lt_of_cell? _ _ y2)).trans y2
    by_cases hlt : k < L.length
    · obtain ⟨p1, o1, d1, e1, l1, m1, f1⟩ := (j1.below hbel).at k hlt
      obtain ⟨p2, o2, d2, e2, l2, m2, f2⟩ := (j2.below hbel).at k hlt
      simp only [Value.slice.injEq] at e1 e2
      obtain ⟨rfl, _, rfl⟩ := e1
      obtain ⟨rfl, _, rfl⟩ := e2
      have HA := hid j1
      have HB := hid j2
      clear j1 j2
      generalize L[k] = x at *
      go_wp2_with fail
      go_quiet (fail)
      have hbW := below_dn hbel nq
      clear f1 f2 hbel z1 z2
      generalize wr.drewN nq = X at *
      go_wp2
      go_roundw
      case rel => exact ⟨k + 1, by omega, by go_num, hbW⟩
      case measure => simp [intOf]; omega
    · go_wp2
      go_ret
      exact ⟨rfl, hbw⟩
end Go.Proofs.YthhikmlbpagknaaDoor
