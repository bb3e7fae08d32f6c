/- order: ask, kind by kind; how many words an empty line has. -/
import Derived.Test.YthhikmlbpagknaaDoorKFill
import Derived.Test.YthhikmlbpagknaaDoorKLine
namespace Go.Proofs.YthhikmlbpagknaaDoor
open Go.RowKit
set_option linter.unusedVariables false
set_option maxRecDepth 100000
set_option linter.unusedSimpArgs false

set_option maxHeartbeats 3200000 in
theorem lockask_any (w : World) (lb : Nat) (who : ByteArray) (c0 c2 c3 c4 c5 c6 c7 c8 c9 c10 c11 c12 c13 c14 c15 c16 c17 : Value) (n : Int) (hw : who.size ≤ 1000000000) (hl : w.heap[lb]? = some (.cells #[c0, .int .i64 n, c2, c3, c4, c5, c6, c7, c8, c9, c10, c11, c12, c13, c14, c15, c16, c17] 67 (0, 0))) :
    Calls Tryd.prog 74 #[.pointer (some ⟨lb, 0, none⟩), .string who] w fun r w' => r = .returned (.agg #[.int .i64 1, .int .i64 n, .int .i64 0, .string ⟨#[]⟩, .int .i64 0, .int .i64 0, .int .i64 0, .bool false, .int .i64 0, .int .i64 0, .string ⟨#[]⟩, .int .i64 0, .int .i64 0, .bool false, .int .i64 0, .slice none 0 0, .int .i64 0, .int .i64 0]) ∧ Kx (fun b => b = lb) w w' := by
  have hlb := lt_of_block hl
  have b1 := (Below.refl w.heap.size w).alloc (Nat.le_refl _) (Obj.cells #[.int .i64 0, .int .i64 0, .int .i64 0, .string ⟨#[]⟩, .int .i64 0, .int .i64 0, .int .i64 0, .bool false, .int .i64 0, .int .i64 0, .string ⟨#[]⟩, .int .i64 0, .int .i64 0, .bool false, .int .i64 0, .slice none 0 0, .int .i64 0, .int .i64 0] 32)
  have e1 : (w.alloc (Obj.cells #[.int .i64 0, .int .i64 0, .int .i64 0, .string ⟨#[]⟩, .int .i64 0, .int .i64 0, .int .i64 0, .bool false, .int .i64 0, .int .i64 0, .string ⟨#[]⟩, .int .i64 0, .int .i64 0, .bool false, .int .i64 0, .slice none 0 0, .int .i64 0, .int .i64 0] 32)).heap[w.heap.size]? = some (Obj.cells #[.int .i64 0, .int .i64 0, .int .i64 0, .string ⟨#[]⟩, .int .i64 0, .int .i64 0, .int .i64 0, .bool false, .int .i64 0, .int .i64 0, .string ⟨#[]⟩, .int .i64 0, .int .i64 0, .bool false, .int .i64 0, .slice none 0 0, .int .i64 0, .int .i64 0] 32 (0, 0)) := heap_alloc_last w _
  have l1 := blk_below hl b1
  have hne : ¬ w.heap.size = lb := by omega
  go_enter Tryd.func74, Tryd.ntmps74
  have k3 : Kx (fun b => b = lb) w (w.alloc (Obj.cells #[.int .i64 0, .int .i64 0, .int .i64 0, .string ⟨#[]⟩, .int .i64 0, .int .i64 0, .int .i64 0, .bool false, .int .i64 0, .int .i64 0, .string ⟨#[]⟩, .int .i64 0, .int .i64 0, .bool false, .int .i64 0, .slice none 0 0, .int .i64 0, .int .i64 0] 32)) := Kx.of_below b1
  have l3 := l1
  have e3 := e1
  have d0 := blk_cell l3 0 c0 rfl
  have d1 := blk_cell l3 1 (.int .i64 n) rfl
  have hr := rowOf_is (n := 18) e3 rfl
  have e4 := setRow_heap _ _ _ #[.int .i64 1, .int .i64 n, .int .i64 0, .string ⟨#[]⟩, .int .i64 0, .int .i64 0, .int .i64 0, .bool false, .int .i64 0, .int .i64 0, .string ⟨#[]⟩, .int .i64 0, .int .i64 0, .bool false, .int .i64 0, .slice none 0 0, .int .i64 0, .int .i64 0] _ _ e3
  have k4 : Kx (fun b => b = lb) w ((w.alloc (Obj.cells #[.int .i64 0, .int .i64 0, .int .i64 0, .string ⟨#[]⟩, .int .i64 0, .int .i64 0, .int .i64 0, .bool false, .int .i64 0, .int .i64 0, .string ⟨#[]⟩, .int .i64 0, .int .i64 0, .bool false, .int .i64 0, .slice none 0 0, .int .i64 0, .int .i64 0] 32)).setRow w.heap.size #[.int .i64 1, .int .i64 n, .int .i64 0, .string ⟨#[]⟩, .int .i64 0, .int .i64 0, .int .i64 0, .bool false, .int .i64 0, .int .i64 0, .string ⟨#[]⟩, .int .i64 0, .int .i64 0, .bool false, .int .i64 0, .slice none 0 0, .int .i64 0, .int .i64 0]) := by
    refine ⟨k3.os, k3.tape, k3.output, by rw [size_setRow]; exact k3.size, fun i hi hs => ?_⟩
    rw [setRow_other _ _ _ _ (by omega)]
    exact k3.block i hi hs
  clear l3 l1 hl
  go_wp2
  exact bodyPost_ret (results_cell_row Tryd.results74 _ _ w.heap.size _ _ _ _ (by rfl) e4 Tryd.underlying32 (by rfl) info_Ask) rfl ⟨rfl, k4⟩
set_option maxHeartbeats 3200000 in
theorem cancelask_any (w : World) (lb : Nat) (who : ByteArray) (c0 c1 c3 c4 c5 c6 c7 c8 c9 c10 c11 c12 c13 c14 c15 c16 c17 : Value) (n : Int) (hw : who.size ≤ 1000000000) (hl : w.heap[lb]? = some (.cells #[c0, c1, .int .i64 n, c3, c4, c5, c6, c7, c8, c9, c10, c11, c12, c13, c14, c15, c16, c17] 75 (0, 0))) :
    Calls Tryd.prog 115 #[.pointer (some ⟨lb, 0, none⟩), .string who] w fun r w' => r = .returned (.agg #[.int .i64 4, .int .i64 0, .int .i64 n, .string ⟨#[]⟩, .int .i64 0, .int .i64 0, .int .i64 0, .bool false, .int .i64 0, .int .i64 0, .string ⟨#[]⟩, .int .i64 0, .int .i64 0, .bool false, .int .i64 0, .slice none 0 0, .int .i64 0, .int .i64 0]) ∧ Kx (fun b => b = lb) w w' := by
  have hlb := lt_of_block hl
  have b1 := (Below.refl w.heap.size w).alloc (Nat.le_refl _) (Obj.cells #[.int .i64 0, .int .i64 0, .int .i64 0, .string ⟨#[]⟩, .int .i64 0, .int .i64 0, .int .i64 0, .bool false, .int .i64 0, .int .i64 0, .string ⟨#[]⟩, .int .i64 0, .int .i64 0, .bool false, .int .i64 0, .slice none 0 0, .int .i64 0, .int .i64 0] 32)
  have e1 : (w.alloc (Obj.cells #[.int .i64 0, .int .i64 0, .int .i64 0, .string ⟨#[]⟩, .int .i64 0, .int .i64 0, .int .i64 0, .bool false, .int .i64 0, .int .i64 0, .string ⟨#[]⟩, .int .i64 0, .int .i64 0, .bool false, .int .i64 0, .slice none 0 0, .int .i64 0, .int .i64 0] 32)).heap[w.heap.size]? = some (Obj.cells #[.int .i64 0, .int .i64 0, .int .i64 0, .string ⟨#[]⟩, .int .i64 0, .int .i64 0, .int .i64 0, .bool false, .int .i64 0, .int .i64 0, .string ⟨#[]⟩, .int .i64 0, .int .i64 0, .bool false, .int .i64 0, .slice none 0 0, .int .i64 0, .int .i64 0] 32 (0, 0)) := heap_alloc_last w _
  have l1 := blk_below hl b1
  have hne : ¬ w.heap.size = lb := by omega
  go_enter Tryd.func115, Tryd.ntmps115
  have k3 : Kx (fun b => b = lb) w (w.alloc (Obj.cells #[.int .i64 0, .int .i64 0, .int .i64 0, .string ⟨#[]⟩, .int .i64 0, .int .i64 0, .int .i64 0, .bool false, .int .i64 0, .int .i64 0, .string ⟨#[]⟩, .int .i64 0, .int .i64 0, .bool false, .int .i64 0, .slice none 0 0, .int .i64 0, .int .i64 0] 32)) := Kx.of_below b1
  have l3 := l1
  have e3 := e1
  have d0 := blk_cell l3 0 (c0) rfl
  have d1 := blk_cell l3 1 (c1) rfl
  have d2 := blk_cell l3 2 (.int .i64 n) rfl
  have hr := rowOf_is (n := 18) e3 rfl
  have e4 := setRow_heap _ _ _ #[.int .i64 4, .int .i64 0, .int .i64 n, .string ⟨#[]⟩, .int .i64 0, .int .i64 0, .int .i64 0, .bool false, .int .i64 0, .int .i64 0, .string ⟨#[]⟩, .int .i64 0, .int .i64 0, .bool false, .int .i64 0, .slice none 0 0, .int .i64 0, .int .i64 0] _ _ e3
  have k4 : Kx (fun b => b = lb) w ((w.alloc (Obj.cells #[.int .i64 0, .int .i64 0, .int .i64 0, .string ⟨#[]⟩, .int .i64 0, .int .i64 0, .int .i64 0, .bool false, .int .i64 0, .int .i64 0, .string ⟨#[]⟩, .int .i64 0, .int .i64 0, .bool false, .int .i64 0, .slice none 0 0, .int .i64 0, .int .i64 0] 32)).setRow w.heap.size #[.int .i64 4, .int .i64 0, .int .i64 n, .string ⟨#[]⟩, .int .i64 0, .int .i64 0, .int .i64 0, .bool false, .int .i64 0, .int .i64 0, .string ⟨#[]⟩, .int .i64 0, .int .i64 0, .bool false, .int .i64 0, .slice none 0 0, .int .i64 0, .int .i64 0]) := by
    refine ⟨k3.os, k3.tape, k3.output, by rw [size_setRow]; exact k3.size, fun i hi hs => ?_⟩
    rw [setRow_other _ _ _ _ (by omega)]
    exact k3.block i hi hs
  clear l3 l1 hl
  go_wp2
  exact bodyPost_ret (results_cell_row Tryd.results115 _ _ w.heap.size _ _ _ _ (by rfl) e4 Tryd.underlying32 (by rfl) info_Ask) rfl ⟨rfl, k4⟩
set_option maxHeartbeats 3200000 in
theorem stepask_any (w : World) (lb : Nat) (who : ByteArray) (c0 : Value) (s1 s2 s3 : Int) (sb : Bool) (s5 s6 : Int) (hw : who.size ≤ 1000000000) (hl : w.heap[lb]? = some (.cells #[c0, .int .i64 s1, .int .i64 s2, .int .i64 s3, .bool sb, .int .i64 s5, .int .i64 s6] 70 (0, 0))) :
    Calls Tryd.prog 97 #[.pointer (some ⟨lb, 0, none⟩), .string who] w fun r w' => r = .returned (.agg #[.int .i64 2, .int .i64 0, .int .i64 0, .string who, .int .i64 s1, .int .i64 s2, .int .i64 s3, .bool sb, .int .i64 s5, .int .i64 s6, .string ⟨#[]⟩, .int .i64 0, .int .i64 0, .bool false, .int .i64 0, .slice none 0 0, .int .i64 0, .int .i64 0]) ∧ Kx (fun b => b = lb) w w' := by
  have hlb := lt_of_block hl
  have b1 := (Below.refl w.heap.size w).alloc (Nat.le_refl _) (Obj.cells #[.int .i64 0, .int .i64 0, .int .i64 0, .string ⟨#[]⟩, .int .i64 0, .int .i64 0, .int .i64 0, .bool false, .int .i64 0, .int .i64 0, .string ⟨#[]⟩, .int .i64 0, .int .i64 0, .bool false, .int .i64 0, .slice none 0 0, .int .i64 0, .int .i64 0] 32)
  have e1 : (w.alloc (Obj.cells #[.int .i64 0, .int .i64 0, .int .i64 0, .string ⟨#[]⟩, .int .i64 0, .int .i64 0, .int .i64 0, .bool false, .int .i64 0, .int .i64 0, .string ⟨#[]⟩, .int .i64 0, .int .i64 0, .bool false, .int .i64 0, .slice none 0 0, .int .i64 0, .int .i64 0] 32)).heap[w.heap.size]? = some (Obj.cells #[.int .i64 0, .int .i64 0, .int .i64 0, .string ⟨#[]⟩, .int .i64 0, .int .i64 0, .int .i64 0, .bool false, .int .i64 0, .int .i64 0, .string ⟨#[]⟩, .int .i64 0, .int .i64 0, .bool false, .int .i64 0, .slice none 0 0, .int .i64 0, .int .i64 0] 32 (0, 0)) := heap_alloc_last w _
  have l1 := blk_below hl b1
  have hne : ¬ w.heap.size = lb := by omega
  go_enter Tryd.func97, Tryd.ntmps97
  go_wp2_with fail
  generalize w.alloc (Obj.cells #[.int .i64 0, .int .i64 0, .int .i64 0, .string ⟨#[]⟩, .int .i64 0, .int .i64 0, .int .i64 0, .bool false, .int .i64 0, .int .i64 0, .string ⟨#[]⟩, .int .i64 0, .int .i64 0, .bool false, .int .i64 0, .slice none 0 0, .int .i64 0, .int .i64 0] 32) = w1 at *
  refine (sclone_any who w1 (by omega)).mono ?_
  rintro r2 w2 ⟨rfl, b2⟩
  have e2 := blk_below e1 b2
  have l2 := blk_below l1 b2
  have q2 := blk_cell l2 0 c0 rfl
  have fr2 := blk_free l2 0
  have k3 : Kx (fun b => b = lb) w (w2.setCell ⟨lb, 0, none⟩ (.string who)) := Kx.set (S := fun b => b = lb) (g := lb) (Kx.of_below (chain2 b1 b2)) rfl _
  have l3 : (w2.setCell ⟨lb, 0, none⟩ (.string who)).heap[lb]? = some (.cells #[.string who, .int .i64 s1, .int .i64 s2, .int .i64 s3, .bool sb, .int .i64 s5, .int .i64 s6] 70 (0, 0)) := blk_set l2
  have e3 : (w2.setCell ⟨lb, 0, none⟩ (.string who)).heap[w.heap.size]? = some (Obj.cells #[.int .i64 0, .int .i64 0, .int .i64 0, .string ⟨#[]⟩, .int .i64 0, .int .i64 0, .int .i64 0, .bool false, .int .i64 0, .int .i64 0, .string ⟨#[]⟩, .int .i64 0, .int .i64 0, .bool false, .int .i64 0, .slice none 0 0, .int .i64 0, .int .i64 0] 32 (0, 0)) := (Kx.set (S := fun b => b = lb) (g := lb) (Kx.refl _ w2) rfl _).blk e2 hne
  have d0 := blk_cell l3 0 (.string who) rfl
  have d1 := blk_cell l3 1 (.int .i64 s1) rfl
  have d2 := blk_cell l3 2 (.int .i64 s2) rfl
  have d3 := blk_cell l3 3 (.int .i64 s3) rfl
  have d4 := blk_cell l3 4 (.bool sb) rfl
  have d5 := blk_cell l3 5 (.int .i64 s5) rfl
  have d6 := blk_cell l3 6 (.int .i64 s6) rfl
  have hr := rowOf_is (n := 18) e3 rfl
  have e4 := setRow_heap _ _ _ #[.int .i64 2, .int .i64 0, .int .i64 0, .string who, .int .i64 s1, .int .i64 s2, .int .i64 s3, .bool sb, .int .i64 s5, .int .i64 s6, .string ⟨#[]⟩, .int .i64 0, .int .i64 0, .bool false, .int .i64 0, .slice none 0 0, .int .i64 0, .int .i64 0] _ _ e3
  have k4 : Kx (fun b => b = lb) w ((w2.setCell ⟨lb, 0, none⟩ (.string who)).setRow w.heap.size #[.int .i64 2, .int .i64 0, .int .i64 0, .string who, .int .i64 s1, .int .i64 s2, .int .i64 s3, .bool sb, .int .i64 s5, .int .i64 s6, .string ⟨#[]⟩, .int .i64 0, .int .i64 0, .bool false, .int .i64 0, .slice none 0 0, .int .i64 0, .int .i64 0]) := by
    refine ⟨k3.os, k3.tape, k3.output, by rw [size_setRow]; exact k3.size, fun i hi hs => ?_⟩
    rw [setRow_other _ _ _ _ (by omega)]
    exact k3.block i hi hs
  clear l3 l1 hl l2 e2 e1 b1 b2 k3
  clear e3
  go_wp2
  exact bodyPost_ret (results_cell_row Tryd.results97 _ _ w.heap.size _ _ _ _ (by rfl) e4 Tryd.underlying32 (by rfl) info_Ask) rfl ⟨rfl, k4⟩
set_option maxHeartbeats 3200000 in
theorem blockask_any (w : World) (lb : Nat) (who : ByteArray) (c0 : Value) (s1 s2 : Int) (sb : Bool) (s4 : Int) (qa : Option Addr) (qn qc : Nat) (s6 s7 : Int) (hw : who.size ≤ 1000000000) (hl : w.heap[lb]? = some (.cells #[c0, .int .i64 s1, .int .i64 s2, .bool sb, .int .i64 s4, .slice qa qn qc, .int .i64 s6, .int .i64 s7] 73 (0, 0))) :
    Calls Tryd.prog 103 #[.pointer (some ⟨lb, 0, none⟩), .string who] w fun r w' => r = .returned (.agg #[.int .i64 3, .int .i64 0, .int .i64 0, .string ⟨#[]⟩, .int .i64 0, .int .i64 0, .int .i64 0, .bool false, .int .i64 0, .int .i64 0, .string who, .int .i64 s1, .int .i64 s2, .bool sb, .int .i64 s4, .slice qa qn qc, .int .i64 s6, .int .i64 s7]) ∧ Kx (fun b => b = lb) w w' := by
  have hlb := lt_of_block hl
  have b1 := (Below.refl w.heap.size w).alloc (Nat.le_refl _) (Obj.cells #[.int .i64 0, .int .i64 0, .int .i64 0, .string ⟨#[]⟩, .int .i64 0, .int .i64 0, .int .i64 0, .bool false, .int .i64 0, .int .i64 0, .string ⟨#[]⟩, .int .i64 0, .int .i64 0, .bool false, .int .i64 0, .slice none 0 0, .int .i64 0, .int .i64 0] 32)
  have e1 : (w.alloc (Obj.cells #[.int .i64 0, .int .i64 0, .int .i64 0, .string ⟨#[]⟩, .int .i64 0, .int .i64 0, .int .i64 0, .bool false, .int .i64 0, .int .i64 0, .string ⟨#[]⟩, .int .i64 0, .int .i64 0, .bool false, .int .i64 0, .slice none 0 0, .int .i64 0, .int .i64 0] 32)).heap[w.heap.size]? = some (Obj.cells #[.int .i64 0, .int .i64 0, .int .i64 0, .string ⟨#[]⟩, .int .i64 0, .int .i64 0, .int .i64 0, .bool false, .int .i64 0, .int .i64 0, .string ⟨#[]⟩, .int .i64 0, .int .i64 0, .bool false, .int .i64 0, .slice none 0 0, .int .i64 0, .int .i64 0] 32 (0, 0)) := heap_alloc_last w _
  have l1 := blk_below hl b1
  have hne : ¬ w.heap.size = lb := by omega
  go_enter Tryd.func103, Tryd.ntmps103
  go_wp2_with fail
  generalize w.alloc (Obj.cells #[.int .i64 0, .int .i64 0, .int .i64 0, .string ⟨#[]⟩, .int .i64 0, .int .i64 0, .int .i64 0, .bool false, .int .i64 0, .int .i64 0, .string ⟨#[]⟩, .int .i64 0, .int .i64 0, .bool false, .int .i64 0, .slice none 0 0, .int .i64 0, .int .i64 0] 32) = w1 at *
  refine (sclone_any who w1 (by omega)).mono ?_
  rintro r2 w2 ⟨rfl, b2⟩
  have e2 := blk_below e1 b2
  have l2 := blk_below l1 b2
  have q2 := blk_cell l2 0 c0 rfl
  have fr2 := blk_free l2 0
  have k3 : Kx (fun b => b = lb) w (w2.setCell ⟨lb, 0, none⟩ (.string who)) := Kx.set (S := fun b => b = lb) (g := lb) (Kx.of_below (chain2 b1 b2)) rfl _
  have l3 : (w2.setCell ⟨lb, 0, none⟩ (.string who)).heap[lb]? = some (.cells #[.string who, .int .i64 s1, .int .i64 s2, .bool sb, .int .i64 s4, .slice qa qn qc, .int .i64 s6, .int .i64 s7] 73 (0, 0)) := blk_set l2
  have e3 : (w2.setCell ⟨lb, 0, none⟩ (.string who)).heap[w.heap.size]? = some (Obj.cells #[.int .i64 0, .int .i64 0, .int .i64 0, .string ⟨#[]⟩, .int .i64 0, .int .i64 0, .int .i64 0, .bool false, .int .i64 0, .int .i64 0, .string ⟨#[]⟩, .int .i64 0, .int .i64 0, .bool false, .int .i64 0, .slice none 0 0, .int .i64 0, .int .i64 0] 32 (0, 0)) := (Kx.set (S := fun b => b = lb) (g := lb) (Kx.refl _ w2) rfl _).blk e2 hne
  have d0 := blk_cell l3 0 (.string who) rfl
  have d1 := blk_cell l3 1 (.int .i64 s1) rfl
  have d2 := blk_cell l3 2 (.int .i64 s2) rfl
  have d3 := blk_cell l3 3 (.bool sb) rfl
  have d4 := blk_cell l3 4 (.int .i64 s4) rfl
  have d5 := blk_cell l3 5 (.slice qa qn qc) rfl
  have d6 := blk_cell l3 6 (.int .i64 s6) rfl
  have d7 := blk_cell l3 7 (.int .i64 s7) rfl
  have hr := rowOf_is (n := 18) e3 rfl
  have e4 := setRow_heap _ _ _ #[.int .i64 3, .int .i64 0, .int .i64 0, .string ⟨#[]⟩, .int .i64 0, .int .i64 0, .int .i64 0, .bool false, .int .i64 0, .int .i64 0, .string who, .int .i64 s1, .int .i64 s2, .bool sb, .int .i64 s4, .slice qa qn qc, .int .i64 s6, .int .i64 s7] _ _ e3
  have k4 : Kx (fun b => b = lb) w ((w2.setCell ⟨lb, 0, none⟩ (.string who)).setRow w.heap.size #[.int .i64 3, .int .i64 0, .int .i64 0, .string ⟨#[]⟩, .int .i64 0, .int .i64 0, .int .i64 0, .bool false, .int .i64 0, .int .i64 0, .string who, .int .i64 s1, .int .i64 s2, .bool sb, .int .i64 s4, .slice qa qn qc, .int .i64 s6, .int .i64 s7]) := by
    refine ⟨k3.os, k3.tape, k3.output, by rw [size_setRow]; exact k3.size, fun i hi hs => ?_⟩
    rw [setRow_other _ _ _ _ (by omega)]
    exact k3.block i hi hs
  clear l3 l1 hl l2 e2 e1 b1 b2 k3
  clear e3
  go_wp2
  exact bodyPost_ret (results_cell_row Tryd.results103 _ _ w.heap.size _ _ _ _ (by rfl) e4 Tryd.underlying32 (by rfl) info_Ask) rfl ⟨rfl, k4⟩
theorem itoa_nought (w : World) : Calls Tryd.prog 78 #[.int .i64 0] w fun e w' => e = .returned (.string ⟨#[48]⟩) ∧ w' = w := by
  have := Tryd.strconv_Itoa_small 0 (by omega) w
  rwa [Lib.decDigits_one (by omega)] at this
theorem sideText_sell (w : World) : Calls Tryd.prog 102 #[.bool false] w fun e w' => e = .returned (.string ⟨#[115, 101, 108, 108]⟩) ∧ w' = w := by
  go_enter Tryd.func102, Tryd.ntmps102
  go_wp2
  go_ret
  exact ⟨rfl, rfl⟩
set_option maxHeartbeats 800000 in
theorem qtext_none (w : World) : Calls Tryd.prog 107 #[.slice none 0 0] w fun e w' => e = .returned (.string ⟨#[]⟩) ∧ w' = w := by
  have hJ := fun v => Tryd.strings_Join_none none 0 ⟨#[44]⟩ v
  go_enter Tryd.func107, Tryd.ntmps107
  go_wp2
  refine wp_loop_rounds 1 ?_
  rw [rounds_succ]
  go_wp2_with fail
  refine (hJ w).mono ?_
  rintro e w1 ⟨rfl, rfl⟩
  go_wp2
  go_ret
  exact ⟨rfl, rfl⟩
set_option maxHeartbeats 3200000 in
theorem lockwords_empty (w : World) (lb : Nat) (c0 c2 c3 c4 c5 c6 c7 c8 c9 c10 c11 c12 c13 c14 c15 c16 c17 : Value) (hl : w.heap[lb]? = some (.cells #[c0, .int .i64 0, c2, c3, c4, c5, c6, c7, c8, c9, c10, c11, c12, c13, c14, c15, c16, c17] 67 (0, 0))) :
    Calls Tryd.prog 76 #[.pointer (some ⟨lb, 0, none⟩)] w fun r w' => (∃ a, r = .returned (.slice a 2 2)) ∧ Below w.heap.size w w' := by
  have d1 := blk_cell hl 1 (.int .i64 0) rfl
  have hI := fun v => itoa_nought v
  clear hl
  go_enter Tryd.func76, Tryd.ntmps76
  go_wp2_with fail
  refine (hI w).mono ?_
  rintro e w1 ⟨rfl, rfl⟩
  go_wp2
  go_ret
  exact ⟨⟨_, rfl⟩, (Below.refl _ _).alloc (Nat.le_refl _) _⟩
set_option maxHeartbeats 3200000 in
theorem cancelwords_empty (w : World) (lb : Nat) (c0 c1 c3 c4 c5 c6 c7 c8 c9 c10 c11 c12 c13 c14 c15 c16 c17 : Value) (hl : w.heap[lb]? = some (.cells #[c0, c1, .int .i64 0, c3, c4, c5, c6, c7, c8, c9, c10, c11, c12, c13, c14, c15, c16, c17] 75 (0, 0))) :
    Calls Tryd.prog 117 #[.pointer (some ⟨lb, 0, none⟩)] w fun r w' => (∃ a, r = .returned (.slice a 2 2)) ∧ Below w.heap.size w w' := by
  have d2 := blk_cell hl 2 (.int .i64 0) rfl
  have hI := fun v => itoa_nought v
  clear hl
  go_enter Tryd.func117, Tryd.ntmps117
  go_wp2_with fail
  refine (hI w).mono ?_
  rintro e w1 ⟨rfl, rfl⟩
  go_wp2
  go_ret
  exact ⟨⟨_, rfl⟩, (Below.refl _ _).alloc (Nat.le_refl _) _⟩
set_option maxHeartbeats 3200000 in
theorem stepwords_empty (w : World) (lb : Nat) (c0 : Value) (hl : w.heap[lb]? = some (.cells #[c0, .int .i64 0, .int .i64 0, .int .i64 0, .bool false, .int .i64 0, .int .i64 0] 70 (0, 0))) :
    Calls Tryd.prog 99 #[.pointer (some ⟨lb, 0, none⟩)] w fun r w' => (∃ a, r = .returned (.slice a 7 7)) ∧ Below w.heap.size w w' := by
  have d1 := blk_cell hl 1 (.int .i64 0) rfl
  have d2 := blk_cell hl 2 (.int .i64 0) rfl
  have d3 := blk_cell hl 3 (.int .i64 0) rfl
  have d4 := blk_cell hl 4 (.bool false) rfl
  have d5 := blk_cell hl 5 (.int .i64 0) rfl
  have d6 := blk_cell hl 6 (.int .i64 0) rfl
  have bd : Below w.heap.size w w.drew := ⟨rfl, rfl, rfl, Nat.le_refl _, fun _ _ => rfl⟩
  have HD : ∀ X, Below w.heap.size w X → X.cell? ⟨lb, 1, none⟩ = some (.int .i64 0) ∧ X.cell? ⟨lb, 2, none⟩ = some (.int .i64 0) ∧ X.cell? ⟨lb, 3, none⟩ = some (.int .i64 0) ∧ X.cell? ⟨lb, 4, none⟩ = some (.bool false) ∧ X.cell? ⟨lb, 5, none⟩ = some (.int .i64 0) ∧ X.cell? ⟨lb, 6, none⟩ = some (.int .i64 0) := fun X hX => ⟨(hX.cell (World.block_lt_of_cell? w _ d1)).trans d1, (hX.cell (World.block_lt_of_cell? w _ d2)).trans d2, (hX.cell (World.block_lt_of_cell? w _ d3)).trans d3, (hX.cell (World.block_lt_of_cell? w _ d4)).trans d4, (hX.cell (World.block_lt_of_cell? w _ d5)).trans d5, (hX.cell (World.block_lt_of_cell? w _ d6)).trans d6⟩
  clear hl
  go_enter Tryd.func99, Tryd.ntmps99
  go_wp2_with fail
  go_region_held3 (fun X => X.cell? ⟨lb, 1, none⟩ = some (.int .i64 0) ∧ X.cell? ⟨lb, 2, none⟩ = some (.int .i64 0) ∧ X.cell? ⟨lb, 3, none⟩ = some (.int .i64 0) ∧ X.cell? ⟨lb, 4, none⟩ = some (.bool false) ∧ X.cell? ⟨lb, 5, none⟩ = some (.int .i64 0) ∧ X.cell? ⟨lb, 6, none⟩ = some (.int .i64 0)) (first | exact HD _ bd | exact HD _ (bd.alloc bd.size _)) (first
    | (go_at_call 78; refine (itoa_nought _).mono ?_; rintro e w1 ⟨rfl, hw1⟩; rw [hw1])
    | (go_at_call 102; refine (sideText_sell _).mono ?_; rintro e w1 ⟨rfl, hw1⟩; rw [hw1]))
  go_wp2
  go_ret
  exact ⟨⟨_, rfl⟩, bd.alloc bd.size _⟩
set_option maxHeartbeats 3200000 in
theorem blockwords_empty (w : World) (lb : Nat) (c0 : Value) (hl : w.heap[lb]? = some (.cells #[c0, .int .i64 0, .int .i64 0, .bool false, .int .i64 0, .slice none 0 0, .int .i64 0, .int .i64 0] 73 (0, 0))) :
    Calls Tryd.prog 105 #[.pointer (some ⟨lb, 0, none⟩)] w fun r w' => (∃ a, r = .returned (.slice a 8 8)) ∧ Below w.heap.size w w' := by
  have d1 := blk_cell hl 1 (.int .i64 0) rfl
  have d2 := blk_cell hl 2 (.int .i64 0) rfl
  have d3 := blk_cell hl 3 (.bool false) rfl
  have d4 := blk_cell hl 4 (.int .i64 0) rfl
  have d5 := blk_cell hl 5 (.slice none 0 0) rfl
  have d6 := blk_cell hl 6 (.int .i64 0) rfl
  have d7 := blk_cell hl 7 (.int .i64 0) rfl
  have bd : Below w.heap.size w w.drew := ⟨rfl, rfl, rfl, Nat.le_refl _, fun _ _ => rfl⟩
  have HD : ∀ X, Below w.heap.size w X → X.cell? ⟨lb, 1, none⟩ = some (.int .i64 0) ∧ X.cell? ⟨lb, 2, none⟩ = some (.int .i64 0) ∧ X.cell? ⟨lb, 3, none⟩ = some (.bool false) ∧ X.cell? ⟨lb, 4, none⟩ = some (.int .i64 0) ∧ X.cell? ⟨lb, 5, none⟩ = some (.slice none 0 0) ∧ X.cell? ⟨lb, 6, none⟩ = some (.int .i64 0) ∧ X.cell? ⟨lb, 7, none⟩ = some (.int .i64 0) := fun X hX => ⟨(hX.cell (World.block_lt_of_cell? w _ d1)).trans d1, (hX.cell (World.block_lt_of_cell? w _ d2)).trans d2, (hX.cell (World.block_lt_of_cell? w _ d3)).trans d3, (hX.cell (World.block_lt_of_cell? w _ d4)).trans d4, (hX.cell (World.block_lt_of_cell? w _ d5)).trans d5, (hX.cell (World.block_lt_of_cell? w _ d6)).trans d6, (hX.cell (World.block_lt_of_cell? w _ d7)).trans d7⟩
  clear hl
  go_enter Tryd.func105, Tryd.ntmps105
  go_wp2_with fail
  go_region_held3 (fun X => X.cell? ⟨lb, 1, none⟩ = some (.int .i64 0) ∧ X.cell? ⟨lb, 2, none⟩ = some (.int .i64 0) ∧ X.cell? ⟨lb, 3, none⟩ = some (.bool false) ∧ X.cell? ⟨lb, 4, none⟩ = some (.int .i64 0) ∧ X.cell? ⟨lb, 5, none⟩ = some (.slice none 0 0) ∧ X.cell? ⟨lb, 6, none⟩ = some (.int .i64 0) ∧ X.cell? ⟨lb, 7, none⟩ = some (.int .i64 0)) (first | exact HD _ bd | exact HD _ (bd.alloc bd.size _)) (first
    | (go_at_call 78; refine (itoa_nought _).mono ?_; rintro e w1 ⟨rfl, hw1⟩; rw [hw1])
    | (go_at_call 102; refine (sideText_sell _).mono ?_; rintro e w1 ⟨rfl, hw1⟩; rw [hw1])
    | (go_at_call 107; refine (qtext_none _).mono ?_; rintro e w1 ⟨rfl, hw1⟩; rw [hw1]))
  go_wp2
  go_ret
  exact ⟨⟨_, rfl⟩, bd.alloc bd.size _⟩
end Go.Proofs.YthhikmlbpagknaaDoor
